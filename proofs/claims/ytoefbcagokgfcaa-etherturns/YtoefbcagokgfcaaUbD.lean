import Derived.Test.YtoefbcagokgfcaaPack13
namespace Go.Proofs.Ytoefbcagokgfcaa
open Go.RowKit
set_option maxRecDepth 8000
/-- bytes as a text -/
def strB (zs : List Int) : ByteArray := zs.foldl (fun r n => r.push (UInt8.ofNat n.toNat)) ByteArray.empty
theorem conv_src {w : World} {p : Option Addr} {c : Nat} {zs : List Int} (h : Src w p zs.length c 1 (zs.map (.int .u8))) : (convert 29 9 (.slice p zs.length c)).run Try.prog w = .ok (.string (strB zs)) w := by
  rw [run_convert_bytes_string (P := Try.prog) w 29 9 5 _ _ _ Try.underlying29 Try.underlying5 Try.underlying9]
  rcases h with ⟨rfl, h0, rfl, _⟩ | ⟨ad, rfl, _, hc⟩
  · obtain rfl : zs = [] := List.eq_nil_of_length_eq_zero h0
    rfl
  · have hl := run_loadCells_list (P := Try.prog) (w := w) ad (zs.map (Value.int .u8)) hc
    rw [List.length_map] at hl
    exact run_bytesToString w ad zs.length c zs hl
set_option maxHeartbeats 4000000 in
/-- sameBytes of the same bytes -/
theorem sameB_yes (w : World) (zs : List Int) (p q : Option Addr) (c d : Nat) (hp : Src w p zs.length c 1 (zs.map (.int .u8))) (hq : Src w q zs.length d 1 (zs.map (.int .u8))) :
    Calls Try.prog 12 #[.slice p zs.length c, .slice q zs.length d] w fun e w' => e = .returned (.bool true) ∧ w' = w := by
  have h1 := conv_src hp
  have h2 := conv_src hq
  clear hp hq
  obtain ⟨n, hn⟩ : ∃ n, n = zs.length := ⟨_, rfl⟩
  rw [← hn] at h1 h2 ⊢
  clear hn
  go_enter Try.func12, Try.ntmps12
  go_wp2
  exact bodyPost_ret (v := .bool true) (by simp [results, Try.results12, go_sem]) rfl ⟨rfl, rfl⟩
end Go.Proofs.Ytoefbcagokgfcaa
