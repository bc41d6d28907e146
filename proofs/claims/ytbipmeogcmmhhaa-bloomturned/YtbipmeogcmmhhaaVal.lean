/-
  Contracts of the document's Value and of the law's own read.
-/
import Derived.Test.YtbipmeogcmmhhaaRdMath
import Derived.BigQuiet
import Derived.Deep.QuietTactic
namespace Go.Proofs.Ytbipmeogcmmhhaa
open Go.RowKit Go.Pal

theorem take_snoc (s : ByteArray) (k : Nat) (h : k < s.size) : s.data.toList.take (k + 1) = s.data.toList.take k ++ [s[k]] := by
  rw [List.take_succ_eq_append_getElem (by simpa using h)]; rfl

theorem valL_take_lt (s : ByteArray) (k : Nat) (h : k ≤ 6) : valL (s.data.toList.take k) < 281474976710656 := by
  have h1 := valL_lt (s.data.toList.take k)
  have h2 : (s.data.toList.take k).length ≤ 6 := Nat.le_trans (List.length_take_le _ _) h
  have h3 : 256 ^ (s.data.toList.take k).length ≤ 256 ^ 6 := Nat.pow_le_pow_right (by decide) h2
  have h4 : 256 ^ 6 = 281474976710656 := by decide
  omega

set_option maxHeartbeats 400000 in
theorem value_any (s : ByteArray) (h : s.size ≤ 6) (w : World) :
    Calls Try.prog 62 #[.string s] w fun e w' => e = .returned (.int .i64 (valL s.data.toList)) ∧ w = w' := by
  go_enter Try.func62, Try.ntmps62
  go_wp2
  go_loop [3, 4] (fun n i => ∃ k : Nat, k ≤ s.size ∧ i = .int .i64 k ∧ n = .int .i64 (valL (s.data.toList.take k))) (fun _ i => s.size - (intOf i).toNat)
  case atStart => exact ⟨0, Nat.zero_le _, rfl, rfl⟩
  case round =>
    obtain ⟨k, hk, rfl, rfl⟩ := hrel
    have hb := valL_take_lt s k (by omega)
    by_cases hlt : k < s.size
    · have hs : valL (s.data.toList.take (k + 1)) = 256 * valL (s.data.toList.take k) + s[k].toNat := by rw [take_snoc s k hlt, valL_snoc]
      have HS := Lib.hid hs
      have hc := s[k].toNat_lt
      clear hs
      go_wp2
      go_round
      case rel => exact ⟨k + 1, by omega, by go_num, by rw [HS.out]; go_num⟩
      case measure => simp [intOf]; omega
    · go_wp2
      go_ret
      exact ⟨ret_i (by rw [List.take_of_length_le (by simp; omega)]), rfl⟩

/-- What is left of the text itself. -/
def refRest (n : Int) (s : ByteArray) (bad : Bool) : ByteArray := if rdOk n s bad = true then s.extract n.toNat s.size else s





end Go.Proofs.Ytbipmeogcmmhhaa
