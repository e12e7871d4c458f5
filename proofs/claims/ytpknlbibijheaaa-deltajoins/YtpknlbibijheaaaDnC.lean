import Derived.Test.YtpknlbibijheaaaDnB
import Derived.Test.YtpknlbibijheaaaChkSr
import Derived.Deep.CutRange
namespace Go.Proofs.Ytpknlbibijheaaa
open Go.RowKit
set_option maxRecDepth 8000
/-- the cell of a key: a copy in memory of S, or none -/
structure AtR (l : LT VT) (g : ByteArray) (had : Bool) (u : VT) (W : World) (S : Nat → Prop) : Prop where
  yes : had = true → u.text = g ∧ u.norm ∈ l.nl ∧ VT.In W S u
  no : had = false → ¬ keyIn l.toL g
theorem AtR.keep {l : LT VT} {g : ByteArray} {had : Bool} {u : VT} {W W' : World} {S S' : Nat → Prop} (h : AtR l g had u W S) (hs : W.heap.size ≤ W'.heap.size) (hb : ∀ b, S b → b < W.heap.size → W'.heap[b]? = W.heap[b]?) (hm : ∀ b, S b → b < W.heap.size → S' b) : AtR l g had u W' S' :=
  ⟨fun e => by
    obtain ⟨h1, h2, h3⟩ := h.yes e
    have h4 : VT.In W (fun b => S b ∧ S' b) u := h3.mono fun b hS hl => ⟨hS, hm b hS hl⟩
    exact ⟨h1, h2, (h4.kept hs fun b hS hl => hb b hS.1 hl).mono fun b hS _ => hS.2⟩, h.no⟩
theorem AtR.key {l : LT VT} {g : ByteArray} {had : Bool} {u : VT} {W : World} {S : Nat → Prop} (h : AtR l g had u W S) : had = true ↔ keyIn l.toL g := by
  constructor
  · intro e
    obtain ⟨h1, h2, _⟩ := h.yes e
    rw [← keyIn_norm]
    exact ⟨u.norm, h2, by rw [norm_text, h1]⟩
  · intro hk
    cases had with
    | true => rfl
    | false => exact (h.no rfl hk).elim
theorem rat_one (l : LT VT) (g : ByteArray) (w : World) (S : Nat → Prop) (hl : LT.In elCell w S l) (hz : CSz l) :
    Calls Try.prog 52 #[.slice l.p l.n l.c, .string g] w fun e w' => ∃ (u : VT) (had : Bool), e = .returned (.tuple #[.agg #[.string u.text, .slice u.p u.n u.c], .bool had]) ∧ AtR l g had u w' (fun b => w.heap.size ≤ b) ∧ Below w.heap.size w w' := by
  refine (rat_any l g w S hl hz).mono ?_
  rintro e w' ⟨hb, ⟨j, u, hj, ht, _, rfl, ha, hi⟩ | ⟨hn, rfl⟩⟩
  · have e1 : u.text = g := ha.text.trans ht
    refine ⟨u, true, by rw [e1], ⟨fun _ => ⟨e1, ?_, hi⟩, fun h => by cases h⟩, hb⟩
    rw [← norm_of ha hi]
    exact List.mem_map.2 ⟨_, toL_mem l hj, rfl⟩
  · exact ⟨zC, false, rfl, ⟨fun h => (by cases h), fun _ => hn⟩, hb⟩
theorem hasK_key {xs : List VT} {k : ByteArray} : hasK xs k = true ↔ keyIn xs k := by
  unfold hasK keyIn
  rw [List.any_eq_true]
  constructor
  · rintro ⟨c, hc, he⟩; exact ⟨c, hc, ba_ext (by simpa using he)⟩
  · rintro ⟨c, hc, rfl⟩; exact ⟨c, hc, by simp⟩
theorem firstC_next2 {g : Nat → Nat} {n : Nat} (h : firstC g n = 0) (hg : g n = 0) : firstC g (n + 1) = 0 := by
  show (if firstC g n = 0 then g n else firstC g n) = 0
  rw [if_pos h, hg]
theorem firstC_stay2 {g : Nat → Nat} : ∀ {m n : Nat} {v : Nat}, firstC g m = v → v ≠ 0 → m ≤ n → firstC g n = v := by
  intro m n v h hv hmn
  induction hmn with
  | refl => exact h
  | @step n _ ih =>
    show (if firstC g n = 0 then g n else firstC g n) = v
    rw [ih, if_neg hv]
theorem firstC_hit2 {g : Nat → Nat} {k n v : Nat} (h : firstC g k = 0) (hg : g k = v) (hv : v ≠ 0) (hk : k < n) : firstC g n = v := by
  refine firstC_stay2 (m := k + 1) ?_ hv (by omega)
  show (if firstC g k = 0 then g k else firstC g k) = v
  rw [if_pos h, hg]
set_option maxHeartbeats 8000000 in
theorem rcheck_any (d : DT) (w : World) (S : Nat → Prop) (hin : DT.In w S d) (hz : DSz d) : Calls Try.prog 25 #[.agg #[.int .i64 d.num, .slice d.set.p d.set.n d.set.c, .slice d.gone.p d.gone.n d.gone.c]] w fun e w' => e = .returned (.int .i64 (chkD d)) ∧ Below w.heap.size w w' := by
  have hgn := hin.gone.nn
  obtain ⟨W0, hW0⟩ : ∃ X, X = w.alloc (.cells #[.int .i64 d.num, .slice d.set.p d.set.n d.set.c, .slice d.gone.p d.gone.n d.gone.c] 30) := ⟨_, rfl⟩
  have hB0 : Below w.heap.size w W0 := by rw [hW0]; exact below1 _ _
  have bD : Box W0 w.heap.size #[.int .i64 d.num, .slice d.set.p d.set.n d.set.c, .slice d.gone.p d.gone.n d.gone.c] 30 := by rw [hW0]; exact Box.new _ _ _
  have hi0 := hin.below hB0
  have HSt := hid (refCheckState_any ⟨d.num, d.set.p, d.set.n, d.set.c, d.set.item⟩ W0 S (LT.toST hi0.set hi0.n0 hi0.n1))
  have HW0 := hid hW0
  have HB0 := hid hB0
  have HD := hid bD
  have HI := hid hi0
  have HZ := hid hz
  have d0 := bD.cell 0
  have d1 := bD.cell 1
  have d2 := bD.cell 2
  have dl := bD.lt
  simp at d0 d1 d2
  clear hW0 hB0 bD hi0 hin hz
  go_enter Try.func25, Try.ntmps25
  go_upto_region 1 with fail
  rw [← HW0.out]
  go_wp2_with fail
  refine HSt.out.mono ?_
  rintro e W1 ⟨rfl, hb1⟩
  have HB1 : Hid (Below w.heap.size w W1) := HB0.out.trans (hb1.mono HB0.out.size)
  have HD1 := hid (HD.out.below hb1)
  have HI1 := hid (HI.out.below hb1)
  have HE : Hid (chkD d = if chkState ⟨d.num, d.set.p, d.set.n, d.set.c, d.set.item⟩ ≠ 0 then chkState ⟨d.num, d.set.p, d.set.n, d.set.c, d.set.item⟩ else if 64 < d.gone.n then 111 else firstC (chkGone d.set.toL d.gone.item) d.gone.n) := rfl
  obtain ⟨cs, hcs⟩ : ∃ x, x = chkState ⟨d.num, d.set.p, d.set.n, d.set.c, d.set.item⟩ := ⟨_, rfl⟩
  rw [← hcs] at HE
  rw [← hcs]
  clear d0 d1 d2 dl hb1 HSt hcs HD HI
  have d1 := HD1.out.cell 1
  have d2 := HD1.out.cell 2
  have dl := HD1.out.lt
  simp at d1 d2
  by_cases h0 : cs = 0
  case neg =>
    have h0' : ((cs : Int) != 0) = true := by simp; omega
    have HR : Hid (chkD d = cs) := by show _ = _; rw [HE.out, if_pos h0]
    clear h0
    go_wp2
    exact bodyPost_ret (v := .int .i64 (cs : Int)) (by simp [results, Try.results25, go_sem]) rfl ⟨by rw [HR.out], HB1.out⟩
  case pos =>
    subst h0
    rw [if_neg (by simp)] at HE
    by_cases h64 : 64 < d.gone.n
    · have h64' : (64 : Int) < (d.gone.n : Int) := by omega
      have HR : Hid (chkD d = 111) := by show _ = _; rw [HE.out, if_pos h64]
      go_wp2
      exact bodyPost_ret (v := .int .i64 111) (by simp [results, Try.results25, go_sem]) rfl ⟨by rw [HR.out]; rfl, HB1.out⟩
    · have h64' : ¬ (64 : Int) < (d.gone.n : Int) := by omega
      rw [if_neg h64] at HE
      go_wp2_with fail
      go_loopw [4] (fun x wr => ∃ k : Nat, k ≤ d.gone.n ∧ x = .int .i64 (k : Int) ∧ firstC (chkGone d.set.toL d.gone.item) k = 0 ∧ Below W1.heap.size W1 wr) (fun x _ => d.gone.n - (intOf x).toNat)
      case atStart => exact ⟨0, Nat.zero_le _, rfl, rfl, Below.refl _ _⟩
      case round =>
        obtain ⟨k, hk, rfl, hc, hbw⟩ := hrel
        have HC := hid hc
        have HBw := hid hbw
        have bDr := HD1.out.below hbw
        have e1 := bDr.cell 1
        have e2 := bDr.cell 2
        have el := bDr.lt
        simp at e1 e2
        have HIr := hid (HI1.out.below hbw)
        have HDr := hid bDr
        clear d1 d2 dl hc hbw bDr
        by_cases hlt : k < d.gone.n
        · have hlt' : (k : Int) < (d.gone.n : Int) := by omega
          obtain ⟨gb, go, hpg, _, hgl, hga⟩ := HIr.out.gone.at_ (by omega)
          have a0 : wr.cell? ⟨gb, go + k, none⟩ = some (.string (d.gone.item k)) := by have := hga k hlt 0 _ rfl; simpa [elStr] using this
          have HGa := hid hga
          obtain ⟨key, hkey⟩ : ∃ key, key = d.gone.item k := ⟨_, rfl⟩
          rw [← hkey] at a0
          have HKey := hid hkey
          rw [hpg] at e2 HDr
          have HPg := hid hpg
          have HS1 : Hid (∀ v, chkGone d.set.toL d.gone.item k = v → v ≠ 0 → chkD d = v) := fun v hv hn => by
            rw [HE.out]
            exact firstC_hit2 HC.out hv hn hlt
          clear hga hkey hpg
          by_cases h12 : 12 < key.size
          · have h12' : (12 : Int) < (key.size : Int) := by omega
            have HR : Hid (chkD d = 24) := HS1.out 24 (by unfold chkGone; rw [← HKey.out, if_pos h12]) (by omega)
            have HB9 : Hid (Below w.heap.size w wr) := HB1.out.trans (HBw.out.mono HB1.out.size)
            go_wp2
            exact bodyPost_ret (v := .int .i64 24) (by simp [results, Try.results25, go_sem]) rfl ⟨by rw [HR.out]; rfl, HB9.out⟩
          · have h12' : ¬ (12 : Int) < (key.size : Int) := by omega
            have HAt : Hid (∀ X, Below wr.heap.size wr X → Calls Try.prog 52 #[.slice d.set.p d.set.n d.set.c, .string key] X fun e w' => ∃ (u : VT) (had : Bool), e = .returned (.tuple #[.agg #[.string u.text, .slice u.p u.n u.c], .bool had]) ∧ AtR d.set key had u w' (fun b => X.heap.size ≤ b) ∧ Below X.heap.size X w') := fun X hX => rat_one d.set key X S ((HIr.out.below hX).set) ⟨HZ.out.set, HZ.out.item⟩
            go_upto_region 11 with fail
            go_cut [5, 6] (fun s5 s6 wx => ∃ (bz : Nat) (u : VT) (had : Bool), s5 = .pointer (some ⟨bz, 0, none⟩) ∧ s6 = .bool had ∧ wr.heap.size ≤ bz ∧ Box wx bz #[.string u.text, .slice u.p u.n u.c] 62 ∧ AtR d.set key had u wx (fun b => wr.heap.size ≤ b ∧ b ≠ bz) ∧ Below wr.heap.size wr wx)
            case first =>
              refine wp_region_calmE 30 (fun wx => Below wr.heap.size wr wx) [(0, true), (1, false), (2, true), (3, false), (4, true), (5, true), (6, false)] (.two 7 true [(8, true), (9, true), (10, true)] (.one 11 true [] (.one 12 false [(13, true)] .done)) 11 true [] (.one 7 true [(8, true), (9, true), (10, true)] (.one 12 false [(13, true)] .done))) (by kernel_rfl) (by kernel_rfl) (Below.refl _ _).drew ?_
              refine wpPre_e rfl rfl (fun K1 hK1 => ?_)
              apply Exists.intro
              refine And.intro (fun wx hx => ?_) ?_
              · go_simp
                try rfl
              go_simp
              refine hK1 _ ?_
              clear hK1 K1
              refine wpPre_e rfl rfl (fun K1 hK1 => ?_)
              apply Exists.intro
              refine And.intro (fun wx hx => ?_) ?_
              · have e0 := below_fact hx rfl e1
                have e1 := below_fact hx rfl e2
                have e2 := below_fact hx rfl a0
                go_simp
                try rfl
              go_simp
              refine hK1 _ ?_
              clear hK1 K1
              refine wpPre_e rfl rfl (fun K1 hK1 => ?_)
              apply Exists.intro
              refine And.intro (fun wx hx => ?_) ?_
              · go_simp
                try rfl
              go_simp
              refine hK1 _ ?_
              clear hK1 K1
              refine wpPre_e rfl rfl (fun K1 hK1 => ?_)
              apply Exists.intro
              refine And.intro (fun wx hx => ?_) ?_
              · have e0 := below_fact hx rfl e1
                have e1 := below_fact hx rfl e2
                have e2 := below_fact hx rfl a0
                go_simp
                try rfl
              go_simp
              refine hK1 _ ?_
              clear hK1 K1
              refine wpPre_e rfl rfl (fun K1 hK1 => ?_)
              apply Exists.intro
              refine And.intro (fun wx hx => ?_) ?_
              · go_simp
                try rfl
              go_simp
              refine hK1 _ ?_
              clear hK1 K1
              refine wpPre_e rfl rfl (fun K1 hK1 => ?_)
              apply Exists.intro
              refine And.intro (fun wx hx => ?_) ?_
              · go_simp
                try rfl
              go_simp
              refine hK1 _ ?_
              clear hK1 K1
              refine wpPre_e rfl rfl (fun K1 hK1 => ?_)
              apply Exists.intro
              refine And.intro (fun wx hx => ?_) ?_
              · have e0 := below_fact hx rfl e1
                have e1 := below_fact hx rfl e2
                have e2 := below_fact hx rfl a0
                go_simp
                try rfl
              go_simp
              refine hK1 _ ?_
              clear hK1 K1
              refine wpPre_nil ?_
              refine wpTr_two rfl rfl (fun K1 hK1 => ?_) (fun K1 hK1 => ?_)
              · refine step_call rfl 52 #[.tmp 36, .tmp 41] _ rfl Try.f52 Try.func52 (by kernel_rfl) rfl #[.slice d.set.p d.set.n d.set.c, .string key] rfl _ (HAt.out _ (Below.refl wr.heap.size wr).drew) (fun e w1 h1 => ?_)
                obtain ⟨u, had, rfl, hat, hb1⟩ := h1
                have HB1 : Hid (Below wr.heap.size wr w1) := (Below.refl wr.heap.size wr).drew.trans hb1
                have HA1 := hid hat
                clear hb1 hat
                refine ⟨_, rfl, ?_⟩
                go_simp
                refine hK1 _ _ (fun _ => HB1.out) ?_
                clear hK1 K1
                refine wpPre_e rfl rfl (fun K1 hK1 => ?_)
                apply Exists.intro
                refine And.intro (fun wx hx => ?_) ?_
                · go_simp
                  try rfl
                go_simp
                refine hK1 _ ?_
                clear hK1 K1
                refine wpPre_e rfl rfl (fun K1 hK1 => ?_)
                apply Exists.intro
                refine And.intro (fun wx hx => ?_) ?_
                · go_simp
                  try rfl
                go_simp
                refine hK1 _ ?_
                clear hK1 K1
                refine wpPre_e rfl rfl (fun K1 hK1 => ?_)
                apply Exists.intro
                refine And.intro (fun wx hx => ?_) ?_
                · go_simp
                  try rfl
                go_simp
                refine hK1 _ ?_
                clear hK1 K1
                refine wpPre_nil ?_
                refine wpTr_e rfl (fun K1 hK1 => ?_)
                go_simp
                refine hK1 _ _ (fun _ => HB1.out.trans ((below1 w1 _).mono HB1.out.size)) ?_
                clear hK1 K1
                refine wpPre_nil ?_
                refine wpTr_e rfl (fun K1 hK1 => ?_)
                go_simp
                refine hK1 _ _ (fun h => by cases h) ?_
                clear hK1 K1
                refine wpPre_e rfl rfl (fun K1 hK1 => ?_)
                apply Exists.intro
                refine And.intro (fun wx hx => ?_) ?_
                · go_simp
                  try rfl
                go_simp
                refine hK1 _ ?_
                clear hK1 K1
                refine wpPre_nil ?_
                refine wpTr_done ?_
                go_wp2_with fail
                go_meet
                exact ⟨w1.heap.size, u, had, rfl, rfl, HB1.out.size, Box.new _ _ _, HA1.out.keep (by simp) (fun b _ hl => Below.heap_alloc _ _ _ hl) (fun b hb hl => ⟨hb, by omega⟩), HB1.out.trans ((below1 w1 _).mono HB1.out.size)⟩
              · go_simp
                obtain ⟨V, hV⟩ : ∃ V, V = (wr.alloc (.cells #[.string ⟨#[]⟩, .slice none 0 0] 62)).drew := ⟨_, rfl⟩
                have HBV : Hid (Below wr.heap.size wr V) := by show Below _ _ _; rw [hV]; exact (below1 wr _).drew
                have HBx : Hid (Box V wr.heap.size #[.string ⟨#[]⟩, .slice none 0 0] 62) := by show Box _ _ _ _; rw [hV]; exact Box.new wr _ _
                have HVs : Hid (V.heap.size = wr.heap.size + 1) := by show _ = _; rw [hV]; simp
                rw [← hV]
                clear hV
                refine hK1 _ _ (fun _ => HBV.out) ?_
                clear hK1 K1
                refine wpPre_nil ?_
                refine wpTr_e rfl (fun K1 hK1 => ?_)
                refine step_call rfl 52 #[.tmp 36, .tmp 41] _ rfl Try.f52 Try.func52 (by kernel_rfl) rfl #[.slice d.set.p d.set.n d.set.c, .string key] rfl _ (HAt.out _ HBV.out) (fun e w1 h1 => ?_)
                obtain ⟨u, had, rfl, hat, hb1⟩ := h1
                have HB1 : Hid (Below wr.heap.size wr w1) := HBV.out.trans (hb1.mono HBV.out.size)
                have HA1 := hid hat
                have bx := HBx.out.below hb1
                have q0 := bx.cell 0
                have q1 := bx.cell 1
                have g0 := bx.frozen 0
                have g1 := bx.frozen 1
                have ql := bx.lt
                simp at q0 q1
                have HX1 := hid bx
                clear hb1 hat bx
                refine ⟨_, rfl, ?_⟩
                go_simp
                refine hK1 _ _ (fun _ => HB1.out) ?_
                clear hK1 K1
                refine wpPre_e rfl rfl (fun K1 hK1 => ?_)
                apply Exists.intro
                refine And.intro (fun wx hx => ?_) ?_
                · go_simp
                  try rfl
                go_simp
                refine hK1 _ ?_
                clear hK1 K1
                refine wpPre_e rfl rfl (fun K1 hK1 => ?_)
                apply Exists.intro
                refine And.intro (fun wx hx => ?_) ?_
                · go_simp
                  try rfl
                go_simp
                refine hK1 _ ?_
                clear hK1 K1
                refine wpPre_e rfl rfl (fun K1 hK1 => ?_)
                apply Exists.intro
                refine And.intro (fun wx hx => ?_) ?_
                · go_simp
                  try rfl
                go_simp
                refine hK1 _ ?_
                clear hK1 K1
                refine wpPre_nil ?_
                refine wpTr_e rfl (fun K1 hK1 => ?_)
                go_simp
                refine hK1 _ _ (fun h => by cases h) ?_
                clear hK1 K1
                refine wpPre_e rfl rfl (fun K1 hK1 => ?_)
                apply Exists.intro
                refine And.intro (fun wx hx => ?_) ?_
                · go_simp
                  try rfl
                go_simp
                refine hK1 _ ?_
                clear hK1 K1
                refine wpPre_nil ?_
                refine wpTr_done ?_
                go_wp2_with fail
                go_meet
                have hvs := HVs.out
                have hbt : But (fun x => x = wr.heap.size) w1 ((w1.setCell ⟨wr.heap.size, 0, none⟩ (.string u.text)).setCell ⟨wr.heap.size, 1, none⟩ (.slice u.p u.n u.c)) := ((But.one _ _).setAt 0 _).setAt 1 _
                exact ⟨wr.heap.size, u, had, rfl, rfl, Nat.le_refl _, by simpa using (HX1.out.set 0 (.string u.text)).set 1 (.slice u.p u.n u.c), HA1.out.keep hbt.size (fun b hb hl => hbt.block b hl (by omega)) (fun b hb hl => ⟨by omega, by omega⟩), HB1.out.trans (hbt.below HB1.out.size (fun q hq => by omega))⟩
            case rest =>
              obtain ⟨bz, u, had, rfl, rfl, _, _, hat, hbx⟩ := hcut
              have hky := hat.key
              have HBx : Hid (Below W1.heap.size W1 wc) := HBw.out.trans (hbx.mono HBw.out.size)
              have HB9 : Hid (Below w.heap.size w wc) := HB1.out.trans (HBx.out.mono HB1.out.size)
              have bDc := HDr.out.below hbx
              have i2 := bDc.cell 2
              have il := bDc.lt
              simp at i2
              have b0 : wc.cell? ⟨gb, go + k, none⟩ = some (.string key) := (World.cell?_of_block (a := ⟨gb, go + k, none⟩) (hbx.block gb hgl)).trans a0
              have gl2 : gb < wc.heap.size := Nat.lt_of_lt_of_le hgl hbx.size
              have HKy := hid hky
              have HBxx := hid hbx
              clear hat hbx hky bDc e1 e2 el a0
              cases had with
              | true =>
                have HR : Hid (chkD d = 112) := HS1.out 112 (by unfold chkGone; rw [← HKey.out, if_neg h12, if_pos (.inr (hasK_key.2 (HKy.out.1 rfl)))]) (by omega)
                go_upto_region 12 with fail
                refine wp_region_calmE 30 (fun wx => Below wc.heap.size wc wx) [(0, true), (1, true), (2, true), (3, true), (4, true), (5, true), (6, false), (7, true), (8, true), (9, false), (10, true), (11, false), (12, true), (13, true), (14, true), (15, false), (16, true), (17, true), (18, true)] .done (by kernel_rfl) (by kernel_rfl) (Below.refl _ _).drew ?_
                refine wpPre_e rfl rfl (fun K1 hK1 => ?_)
                apply Exists.intro
                refine And.intro (fun wx hx => ?_) ?_
                · go_simp
                  try rfl
                go_simp
                refine hK1 _ ?_
                clear hK1 K1
                refine wpPre_e rfl rfl (fun K1 hK1 => ?_)
                apply Exists.intro
                refine And.intro (fun wx hx => ?_) ?_
                · go_simp
                  try rfl
                go_simp
                refine hK1 _ ?_
                clear hK1 K1
                refine wpPre_i rfl (fun K1 hK1 => ?_)
                rw [if_neg (by go_simp; all_goals (intro h; cases h))]
                go_simp
                refine hK1 _ ?_
                clear hK1 K1
                refine wpPre_i rfl (fun K1 hK1 => ?_)
                rw [if_neg (by go_simp; all_goals (intro h; cases h))]
                go_simp
                refine hK1 _ ?_
                clear hK1 K1
                refine wpPre_i rfl (fun K1 hK1 => ?_)
                rw [if_neg (by go_simp; all_goals (intro h; cases h))]
                go_simp
                refine hK1 _ ?_
                clear hK1 K1
                refine wpPre_i rfl (fun K1 hK1 => ?_)
                rw [if_neg (by go_simp; all_goals (intro h; cases h))]
                go_simp
                refine hK1 _ ?_
                clear hK1 K1
                refine wpPre_i rfl (fun K1 hK1 => ?_)
                rw [if_neg (by go_simp; all_goals (intro h; cases h))]
                go_simp
                refine hK1 _ ?_
                clear hK1 K1
                refine wpPre_i rfl (fun K1 hK1 => ?_)
                rw [if_neg (by go_simp; all_goals (intro h; cases h))]
                go_simp
                refine hK1 _ ?_
                clear hK1 K1
                refine wpPre_i rfl (fun K1 hK1 => ?_)
                rw [if_neg (by go_simp; all_goals (intro h; cases h))]
                go_simp
                refine hK1 _ ?_
                clear hK1 K1
                refine wpPre_i rfl (fun K1 hK1 => ?_)
                rw [if_neg (by go_simp; all_goals (intro h; cases h))]
                go_simp
                refine hK1 _ ?_
                clear hK1 K1
                refine wpPre_i rfl (fun K1 hK1 => ?_)
                rw [if_neg (by go_simp; all_goals (intro h; cases h))]
                go_simp
                refine hK1 _ ?_
                clear hK1 K1
                refine wpPre_i rfl (fun K1 hK1 => ?_)
                rw [if_neg (by go_simp; all_goals (intro h; cases h))]
                go_simp
                refine hK1 _ ?_
                clear hK1 K1
                refine wpPre_i rfl (fun K1 hK1 => ?_)
                rw [if_neg (by go_simp; all_goals (intro h; cases h))]
                go_simp
                refine hK1 _ ?_
                clear hK1 K1
                refine wpPre_i rfl (fun K1 hK1 => ?_)
                rw [if_neg (by go_simp; all_goals (intro h; cases h))]
                go_simp
                refine hK1 _ ?_
                clear hK1 K1
                refine wpPre_i rfl (fun K1 hK1 => ?_)
                rw [if_neg (by go_simp; all_goals (intro h; cases h))]
                go_simp
                refine hK1 _ ?_
                clear hK1 K1
                refine wpPre_i rfl (fun K1 hK1 => ?_)
                rw [if_neg (by go_simp; all_goals (intro h; cases h))]
                go_simp
                refine hK1 _ ?_
                clear hK1 K1
                refine wpPre_i rfl (fun K1 hK1 => ?_)
                rw [if_neg (by go_simp; all_goals (intro h; cases h))]
                go_simp
                refine hK1 _ ?_
                clear hK1 K1
                refine wpPre_i rfl (fun K1 hK1 => ?_)
                rw [if_neg (by go_simp; all_goals (intro h; cases h))]
                go_simp
                refine hK1 _ ?_
                clear hK1 K1
                refine wpPre_e rfl rfl (fun K1 hK1 => ?_)
                apply Exists.intro
                refine And.intro (fun wx hx => ?_) ?_
                · go_simp
                  try rfl
                go_simp
                refine hK1 _ ?_
                clear hK1 K1
                refine wpPre_nil ?_
                refine wpTr_done ?_
                go_wp2
                exact bodyPost_ret (v := .int .i64 112) (by simp [results, Try.results25, go_sem]) rfl ⟨by rw [HR.out]; rfl, HB9.out.drew⟩
              | false =>
                have HNo : Hid (hasK d.set.toL key = false) := by
                  show _ = _
                  cases hh : hasK d.set.toL key with
                  | false => rfl
                  | true => have := HKy.out.2 (hasK_key.1 hh); cases this
                by_cases hk0 : 0 < k
                · have hk0' : (0 : Int) < (k : Int) := by omega
                  obtain ⟨M, hM⟩ : ∃ M, k = M + 1 := ⟨k - 1, by omega⟩
                  have c0 : wc.cell? ⟨gb, go + M, none⟩ = some (.string (d.gone.item M)) := (World.cell?_of_block (a := ⟨gb, go + M, none⟩) (HBxx.out.block gb hgl)).trans (by have := HGa.out M (by omega) 0 _ rfl; simpa [elStr] using this)
                  have hM3 : (k : Int) - 1 = (M : Int) := by omega
                  have hM4 : (M : Int) < (d.gone.n : Int) := by omega
                  have hM5 : M < d.gone.n := by omega
                  have hwM : IntKind.i64.wrap (M : Int) = (M : Int) := by rw [IntKind.wrap_i64]; omega
                  have HM := hid hM
                  obtain ⟨pv, hpv⟩ : ∃ pv, pv = d.gone.item M := ⟨_, rfl⟩
                  rw [← hpv] at c0
                  have HPv := hid hpv
                  clear hM hpv
                  cases hle : (Op.bytesLess key.toList pv.toList || key.toList == pv.toList) with
                  | true =>
                    have HR : Hid (chkD d = 112) := HS1.out 112 (by unfold chkGone; rw [← HKey.out, if_neg h12, if_pos (.inl ⟨hk0, by rw [show k - 1 = M by have := HM.out; omega, ← HPv.out]; exact hle⟩)]) (by omega)
                    go_upto_region 12 with fail
                    refine wp_region_calmE 30 (fun wx => Below wc.heap.size wc wx) [(0, true), (1, true), (2, true), (3, true), (4, true), (5, true), (6, false), (7, true), (8, true), (9, false), (10, true), (11, false), (12, true), (13, true), (14, true), (15, false), (16, true), (17, true), (18, true)] .done (by kernel_rfl) (by kernel_rfl) (Below.refl _ _).drew ?_
                    refine wpPre_e rfl rfl (fun K1 hK1 => ?_)
                    apply Exists.intro
                    refine And.intro (fun wx hx => ?_) ?_
                    · go_simp
                      try rfl
                    go_simp
                    refine hK1 _ ?_
                    clear hK1 K1
                    refine wpPre_e rfl rfl (fun K1 hK1 => ?_)
                    apply Exists.intro
                    refine And.intro (fun wx hx => ?_) ?_
                    · go_simp
                      try rfl
                    go_simp
                    refine hK1 _ ?_
                    clear hK1 K1
                    refine wpPre_i rfl (fun K1 hK1 => ?_)
                    rw [if_pos (by go_simp)]
                    apply Exists.intro
                    refine And.intro (fun wx hx => ?_) ?_
                    · go_simp
                      try rfl
                    go_simp
                    refine hK1 _ ?_
                    clear hK1 K1
                    refine wpPre_i rfl (fun K1 hK1 => ?_)
                    rw [if_pos (by go_simp)]
                    apply Exists.intro
                    refine And.intro (fun wx hx => ?_) ?_
                    · go_simp
                      try rfl
                    go_simp
                    refine hK1 _ ?_
                    clear hK1 K1
                    refine wpPre_i rfl (fun K1 hK1 => ?_)
                    rw [if_pos (by go_simp)]
                    apply Exists.intro
                    refine And.intro (fun wx hx => ?_) ?_
                    · go_simp
                      try rfl
                    go_simp
                    refine hK1 _ ?_
                    clear hK1 K1
                    refine wpPre_i rfl (fun K1 hK1 => ?_)
                    rw [if_pos (by go_simp)]
                    apply Exists.intro
                    refine And.intro (fun wx hx => ?_) ?_
                    · go_simp
                      try rfl
                    go_simp
                    refine hK1 _ ?_
                    clear hK1 K1
                    refine wpPre_i rfl (fun K1 hK1 => ?_)
                    rw [if_pos (by go_simp)]
                    apply Exists.intro
                    refine And.intro (fun wx hx => ?_) ?_
                    · have e0 := below_fact hx rfl i2
                      have e1 := below_fact hx rfl b0
                      have e2 := below_fact hx rfl c0
                      go_simp
                      try rfl
                    go_simp
                    refine hK1 _ ?_
                    clear hK1 K1
                    refine wpPre_i rfl (fun K1 hK1 => ?_)
                    rw [if_pos (by go_simp)]
                    apply Exists.intro
                    refine And.intro (fun wx hx => ?_) ?_
                    · go_simp
                      try rfl
                    go_simp
                    refine hK1 _ ?_
                    clear hK1 K1
                    refine wpPre_i rfl (fun K1 hK1 => ?_)
                    rw [if_pos (by go_simp)]
                    apply Exists.intro
                    refine And.intro (fun wx hx => ?_) ?_
                    · go_simp
                      try rfl
                    go_simp
                    refine hK1 _ ?_
                    clear hK1 K1
                    refine wpPre_i rfl (fun K1 hK1 => ?_)
                    rw [if_pos (by go_simp)]
                    apply Exists.intro
                    refine And.intro (fun wx hx => ?_) ?_
                    · have e0 := below_fact hx rfl i2
                      have e1 := below_fact hx rfl b0
                      have e2 := below_fact hx rfl c0
                      go_simp
                      try rfl
                    go_simp
                    refine hK1 _ ?_
                    clear hK1 K1
                    refine wpPre_i rfl (fun K1 hK1 => ?_)
                    rw [if_pos (by go_simp)]
                    apply Exists.intro
                    refine And.intro (fun wx hx => ?_) ?_
                    · go_simp
                      try rfl
                    go_simp
                    refine hK1 _ ?_
                    clear hK1 K1
                    refine wpPre_i rfl (fun K1 hK1 => ?_)
                    rw [if_pos (by go_simp)]
                    apply Exists.intro
                    refine And.intro (fun wx hx => ?_) ?_
                    · have e0 := below_fact hx rfl i2
                      have e1 := below_fact hx rfl b0
                      have e2 := below_fact hx rfl c0
                      go_simp
                      try rfl
                    go_simp
                    refine hK1 _ ?_
                    clear hK1 K1
                    refine wpPre_i rfl (fun K1 hK1 => ?_)
                    rw [if_pos (by go_simp)]
                    apply Exists.intro
                    refine And.intro (fun wx hx => ?_) ?_
                    · go_simp
                      try rfl
                    go_simp
                    refine hK1 _ ?_
                    clear hK1 K1
                    refine wpPre_i rfl (fun K1 hK1 => ?_)
                    rw [if_pos (by go_simp)]
                    apply Exists.intro
                    refine And.intro (fun wx hx => ?_) ?_
                    · go_simp
                      try rfl
                    go_simp
                    refine hK1 _ ?_
                    clear hK1 K1
                    refine wpPre_i rfl (fun K1 hK1 => ?_)
                    rw [if_pos (by go_simp)]
                    apply Exists.intro
                    refine And.intro (fun wx hx => ?_) ?_
                    · go_simp
                      try rfl
                    go_simp
                    refine hK1 _ ?_
                    clear hK1 K1
                    refine wpPre_i rfl (fun K1 hK1 => ?_)
                    rw [if_pos (by go_simp)]
                    apply Exists.intro
                    refine And.intro (fun wx hx => ?_) ?_
                    · have e0 := below_fact hx rfl i2
                      have e1 := below_fact hx rfl b0
                      have e2 := below_fact hx rfl c0
                      go_simp
                      try rfl
                    go_simp
                    refine hK1 _ ?_
                    clear hK1 K1
                    refine wpPre_i rfl (fun K1 hK1 => ?_)
                    rw [if_pos (by go_simp)]
                    apply Exists.intro
                    refine And.intro (fun wx hx => ?_) ?_
                    · go_simp
                      try rfl
                    go_simp
                    refine hK1 _ ?_
                    clear hK1 K1
                    refine wpPre_i rfl (fun K1 hK1 => ?_)
                    rw [if_pos (by go_simp)]
                    apply Exists.intro
                    refine And.intro (fun wx hx => ?_) ?_
                    · go_simp
                      try rfl
                    go_simp
                    refine hK1 _ ?_
                    clear hK1 K1
                    refine wpPre_e rfl rfl (fun K1 hK1 => ?_)
                    apply Exists.intro
                    refine And.intro (fun wx hx => ?_) ?_
                    · go_simp
                      try rfl
                    go_simp
                    refine hK1 _ ?_
                    clear hK1 K1
                    refine wpPre_nil ?_
                    refine wpTr_done ?_
                    go_wp2
                    exact bodyPost_ret (v := .int .i64 112) (by simp [results, Try.results25, go_sem]) rfl ⟨by rw [HR.out]; rfl, HB9.out.drew⟩
                  | false =>
                    have HR : Hid (firstC (chkGone d.set.toL d.gone.item) (k + 1) = 0) := firstC_next2 HC.out (by
                      unfold chkGone
                      rw [← HKey.out, if_neg h12, if_neg]
                      rintro (⟨_, h2⟩ | h2)
                      · rw [show k - 1 = M by have := HM.out; omega, ← HPv.out, hle] at h2; cases h2
                      · rw [HNo.out] at h2; cases h2)
                    go_upto_region 12 with fail
                    refine wp_region_calmE 30 (fun wx => Below wc.heap.size wc wx) [(0, true), (1, true), (2, true), (3, true), (4, true), (5, true), (6, false), (7, true), (8, true), (9, false), (10, true), (11, false), (12, true), (13, true), (14, true), (15, false), (16, true), (17, true), (18, true)] .done (by kernel_rfl) (by kernel_rfl) (Below.refl _ _).drew ?_
                    refine wpPre_e rfl rfl (fun K1 hK1 => ?_)
                    apply Exists.intro
                    refine And.intro (fun wx hx => ?_) ?_
                    · go_simp
                      try rfl
                    go_simp
                    refine hK1 _ ?_
                    clear hK1 K1
                    refine wpPre_e rfl rfl (fun K1 hK1 => ?_)
                    apply Exists.intro
                    refine And.intro (fun wx hx => ?_) ?_
                    · go_simp
                      try rfl
                    go_simp
                    refine hK1 _ ?_
                    clear hK1 K1
                    refine wpPre_i rfl (fun K1 hK1 => ?_)
                    rw [if_pos (by go_simp)]
                    apply Exists.intro
                    refine And.intro (fun wx hx => ?_) ?_
                    · go_simp
                      try rfl
                    go_simp
                    refine hK1 _ ?_
                    clear hK1 K1
                    refine wpPre_i rfl (fun K1 hK1 => ?_)
                    rw [if_pos (by go_simp)]
                    apply Exists.intro
                    refine And.intro (fun wx hx => ?_) ?_
                    · go_simp
                      try rfl
                    go_simp
                    refine hK1 _ ?_
                    clear hK1 K1
                    refine wpPre_i rfl (fun K1 hK1 => ?_)
                    rw [if_pos (by go_simp)]
                    apply Exists.intro
                    refine And.intro (fun wx hx => ?_) ?_
                    · go_simp
                      try rfl
                    go_simp
                    refine hK1 _ ?_
                    clear hK1 K1
                    refine wpPre_i rfl (fun K1 hK1 => ?_)
                    rw [if_pos (by go_simp)]
                    apply Exists.intro
                    refine And.intro (fun wx hx => ?_) ?_
                    · go_simp
                      try rfl
                    go_simp
                    refine hK1 _ ?_
                    clear hK1 K1
                    refine wpPre_i rfl (fun K1 hK1 => ?_)
                    rw [if_pos (by go_simp)]
                    apply Exists.intro
                    refine And.intro (fun wx hx => ?_) ?_
                    · have e0 := below_fact hx rfl i2
                      have e1 := below_fact hx rfl b0
                      have e2 := below_fact hx rfl c0
                      go_simp
                      try rfl
                    go_simp
                    refine hK1 _ ?_
                    clear hK1 K1
                    refine wpPre_i rfl (fun K1 hK1 => ?_)
                    rw [if_pos (by go_simp)]
                    apply Exists.intro
                    refine And.intro (fun wx hx => ?_) ?_
                    · go_simp
                      try rfl
                    go_simp
                    refine hK1 _ ?_
                    clear hK1 K1
                    refine wpPre_i rfl (fun K1 hK1 => ?_)
                    rw [if_pos (by go_simp)]
                    apply Exists.intro
                    refine And.intro (fun wx hx => ?_) ?_
                    · go_simp
                      try rfl
                    go_simp
                    refine hK1 _ ?_
                    clear hK1 K1
                    refine wpPre_i rfl (fun K1 hK1 => ?_)
                    rw [if_pos (by go_simp)]
                    apply Exists.intro
                    refine And.intro (fun wx hx => ?_) ?_
                    · have e0 := below_fact hx rfl i2
                      have e1 := below_fact hx rfl b0
                      have e2 := below_fact hx rfl c0
                      go_simp
                      try rfl
                    go_simp
                    refine hK1 _ ?_
                    clear hK1 K1
                    refine wpPre_i rfl (fun K1 hK1 => ?_)
                    rw [if_pos (by go_simp)]
                    apply Exists.intro
                    refine And.intro (fun wx hx => ?_) ?_
                    · go_simp
                      try rfl
                    go_simp
                    refine hK1 _ ?_
                    clear hK1 K1
                    refine wpPre_i rfl (fun K1 hK1 => ?_)
                    rw [if_pos (by go_simp)]
                    apply Exists.intro
                    refine And.intro (fun wx hx => ?_) ?_
                    · have e0 := below_fact hx rfl i2
                      have e1 := below_fact hx rfl b0
                      have e2 := below_fact hx rfl c0
                      go_simp
                      try rfl
                    go_simp
                    refine hK1 _ ?_
                    clear hK1 K1
                    refine wpPre_i rfl (fun K1 hK1 => ?_)
                    rw [if_pos (by go_simp)]
                    apply Exists.intro
                    refine And.intro (fun wx hx => ?_) ?_
                    · go_simp
                      try rfl
                    go_simp
                    refine hK1 _ ?_
                    clear hK1 K1
                    refine wpPre_i rfl (fun K1 hK1 => ?_)
                    rw [if_pos (by go_simp)]
                    apply Exists.intro
                    refine And.intro (fun wx hx => ?_) ?_
                    · go_simp
                      try rfl
                    go_simp
                    refine hK1 _ ?_
                    clear hK1 K1
                    refine wpPre_i rfl (fun K1 hK1 => ?_)
                    rw [if_pos (by go_simp)]
                    apply Exists.intro
                    refine And.intro (fun wx hx => ?_) ?_
                    · go_simp
                      try rfl
                    go_simp
                    refine hK1 _ ?_
                    clear hK1 K1
                    refine wpPre_i rfl (fun K1 hK1 => ?_)
                    rw [if_pos (by go_simp)]
                    apply Exists.intro
                    refine And.intro (fun wx hx => ?_) ?_
                    · have e0 := below_fact hx rfl i2
                      have e1 := below_fact hx rfl b0
                      have e2 := below_fact hx rfl c0
                      go_simp
                      try rfl
                    go_simp
                    refine hK1 _ ?_
                    clear hK1 K1
                    refine wpPre_i rfl (fun K1 hK1 => ?_)
                    rw [if_pos (by go_simp)]
                    apply Exists.intro
                    refine And.intro (fun wx hx => ?_) ?_
                    · go_simp
                      try rfl
                    go_simp
                    refine hK1 _ ?_
                    clear hK1 K1
                    refine wpPre_i rfl (fun K1 hK1 => ?_)
                    rw [if_pos (by go_simp)]
                    apply Exists.intro
                    refine And.intro (fun wx hx => ?_) ?_
                    · go_simp
                      try rfl
                    go_simp
                    refine hK1 _ ?_
                    clear hK1 K1
                    refine wpPre_e rfl rfl (fun K1 hK1 => ?_)
                    apply Exists.intro
                    refine And.intro (fun wx hx => ?_) ?_
                    · go_simp
                      try rfl
                    go_simp
                    refine hK1 _ ?_
                    clear hK1 K1
                    refine wpPre_nil ?_
                    refine wpTr_done ?_
                    go_wp2
                    go_roundw
                    case rel => exact ⟨k + 1, by omega, by go_num, HR.out, HBx.out.drew⟩
                    case measure => simp [intOf]; omega
                · have hk0' : ¬ (0 : Int) < (k : Int) := by omega
                  have HR : Hid (firstC (chkGone d.set.toL d.gone.item) (k + 1) = 0) := firstC_next2 HC.out (by
                    unfold chkGone
                    rw [← HKey.out, if_neg h12, if_neg]
                    rintro (⟨h1, _⟩ | h2)
                    · omega
                    · rw [HNo.out] at h2; cases h2)
                  go_upto_region 12 with fail
                  refine wp_region_calmE 30 (fun wx => Below wc.heap.size wc wx) [(0, true), (1, true), (2, true), (3, true), (4, true), (5, true), (6, false), (7, true), (8, true), (9, false), (10, true), (11, false), (12, true), (13, true), (14, true), (15, false), (16, true), (17, true), (18, true)] .done (by kernel_rfl) (by kernel_rfl) (Below.refl _ _).drew ?_
                  refine wpPre_e rfl rfl (fun K1 hK1 => ?_)
                  apply Exists.intro
                  refine And.intro (fun wx hx => ?_) ?_
                  · go_simp
                    try rfl
                  go_simp
                  refine hK1 _ ?_
                  clear hK1 K1
                  refine wpPre_e rfl rfl (fun K1 hK1 => ?_)
                  apply Exists.intro
                  refine And.intro (fun wx hx => ?_) ?_
                  · go_simp
                    try rfl
                  go_simp
                  refine hK1 _ ?_
                  clear hK1 K1
                  refine wpPre_i rfl (fun K1 hK1 => ?_)
                  rw [if_pos (by go_simp)]
                  apply Exists.intro
                  refine And.intro (fun wx hx => ?_) ?_
                  · go_simp
                    try rfl
                  go_simp
                  refine hK1 _ ?_
                  clear hK1 K1
                  refine wpPre_i rfl (fun K1 hK1 => ?_)
                  rw [if_pos (by go_simp)]
                  apply Exists.intro
                  refine And.intro (fun wx hx => ?_) ?_
                  · go_simp
                    try rfl
                  go_simp
                  refine hK1 _ ?_
                  clear hK1 K1
                  refine wpPre_i rfl (fun K1 hK1 => ?_)
                  rw [if_pos (by go_simp)]
                  apply Exists.intro
                  refine And.intro (fun wx hx => ?_) ?_
                  · go_simp
                    try rfl
                  go_simp
                  refine hK1 _ ?_
                  clear hK1 K1
                  refine wpPre_i rfl (fun K1 hK1 => ?_)
                  rw [if_neg (by go_simp; all_goals (intro h; cases h))]
                  go_simp
                  refine hK1 _ ?_
                  clear hK1 K1
                  refine wpPre_i rfl (fun K1 hK1 => ?_)
                  rw [if_neg (by go_simp; all_goals (intro h; cases h))]
                  go_simp
                  refine hK1 _ ?_
                  clear hK1 K1
                  refine wpPre_i rfl (fun K1 hK1 => ?_)
                  rw [if_neg (by go_simp; all_goals (intro h; cases h))]
                  go_simp
                  refine hK1 _ ?_
                  clear hK1 K1
                  refine wpPre_i rfl (fun K1 hK1 => ?_)
                  rw [if_neg (by go_simp; all_goals (intro h; cases h))]
                  go_simp
                  refine hK1 _ ?_
                  clear hK1 K1
                  refine wpPre_i rfl (fun K1 hK1 => ?_)
                  rw [if_neg (by go_simp; all_goals (intro h; cases h))]
                  go_simp
                  refine hK1 _ ?_
                  clear hK1 K1
                  refine wpPre_i rfl (fun K1 hK1 => ?_)
                  rw [if_neg (by go_simp; all_goals (intro h; cases h))]
                  go_simp
                  refine hK1 _ ?_
                  clear hK1 K1
                  refine wpPre_i rfl (fun K1 hK1 => ?_)
                  rw [if_neg (by go_simp; all_goals (intro h; cases h))]
                  go_simp
                  refine hK1 _ ?_
                  clear hK1 K1
                  refine wpPre_i rfl (fun K1 hK1 => ?_)
                  rw [if_neg (by go_simp; all_goals (intro h; cases h))]
                  go_simp
                  refine hK1 _ ?_
                  clear hK1 K1
                  refine wpPre_i rfl (fun K1 hK1 => ?_)
                  rw [if_neg (by go_simp; all_goals (intro h; cases h))]
                  go_simp
                  refine hK1 _ ?_
                  clear hK1 K1
                  refine wpPre_i rfl (fun K1 hK1 => ?_)
                  rw [if_neg (by go_simp; all_goals (intro h; cases h))]
                  go_simp
                  refine hK1 _ ?_
                  clear hK1 K1
                  refine wpPre_i rfl (fun K1 hK1 => ?_)
                  rw [if_neg (by go_simp; all_goals (intro h; cases h))]
                  go_simp
                  refine hK1 _ ?_
                  clear hK1 K1
                  refine wpPre_i rfl (fun K1 hK1 => ?_)
                  rw [if_neg (by go_simp; all_goals (intro h; cases h))]
                  go_simp
                  refine hK1 _ ?_
                  clear hK1 K1
                  refine wpPre_i rfl (fun K1 hK1 => ?_)
                  rw [if_pos (by go_simp)]
                  apply Exists.intro
                  refine And.intro (fun wx hx => ?_) ?_
                  · go_simp
                    try rfl
                  go_simp
                  refine hK1 _ ?_
                  clear hK1 K1
                  refine wpPre_e rfl rfl (fun K1 hK1 => ?_)
                  apply Exists.intro
                  refine And.intro (fun wx hx => ?_) ?_
                  · go_simp
                    try rfl
                  go_simp
                  refine hK1 _ ?_
                  clear hK1 K1
                  refine wpPre_nil ?_
                  refine wpTr_done ?_
                  go_wp2
                  go_roundw
                  case rel => exact ⟨k + 1, by omega, by go_num, HR.out, HBx.out.drew⟩
                  case measure => simp [intOf]; omega
        · obtain rfl : k = d.gone.n := by omega
          have HR : Hid (chkD d = 0) := by show _ = _; rw [HE.out]; exact HC.out
          have HB9 : Hid (Below w.heap.size w wr) := HB1.out.trans (HBw.out.mono HB1.out.size)
          go_wp2
          exact bodyPost_ret (v := .int .i64 0) (by simp [results, Try.results25, go_sem]) rfl ⟨by rw [HR.out]; rfl, HB9.out⟩
end Go.Proofs.Ytpknlbibijheaaa
