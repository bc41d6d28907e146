/-
  Plain mathematics for layer 2: bytes padded to whole blocks; the digest is that of the padded bytes' blocks. No program in sight.
-/
import Derived.Test.YtggfmnmopfdiaaaGreatDoorShSt
namespace Go.Pal

/-- How many zeros stand between the bit that ends the bytes and their length. -/
def zerosL (n : Nat) : Nat := if n % 64 ≤ 55 then 55 - n % 64 else 119 - n % 64
/-- Bytes, padded to whole blocks. -/
def padL (l : List UInt8) : List UInt8 := l ++ ([128] ++ List.replicate (zerosL l.length) 0 ++ beL 8 (8 * l.length))

theorem absorb_front (s : St) (l t : List UInt8) : ∀ n, 64 * n ≤ l.length → absorb s (l ++ t) n = absorb s l n
  | 0, _ => rfl
  | n + 1, h => by
    rw [absorb, absorb, absorb_front s l t n (by omega), List.drop_append_of_le_length (by omega), List.take_append_of_le_length (by simp; omega)]

theorem padL_length (l : List UInt8) : (padL l).length = 64 * (l.length / 64 + if l.length % 64 ≤ 55 then 1 else 2) := by
  unfold padL zerosL
  simp only [List.length_append, List.length_replicate, beL_length, List.length_cons, List.length_nil]
  split <;> omega

theorem zerosL_step (n k : Nat) (h : k < zerosL n) : (n + 1 + k + 8) % 64 ≠ 0 := by
  unfold zerosL at h
  split at h <;> omega
theorem zerosL_end (n : Nat) : (n + 1 + zerosL n + 8) % 64 = 0 := by
  unfold zerosL
  split <;> omega
theorem zerosL_le (n : Nat) : zerosL n ≤ 63 := by
  unfold zerosL
  split <;> omega

theorem absorb_pad (s : St) (l : List UInt8) : absorb s (padL l) ((padL l).length / 64) = lastS (absorb s l (l.length / 64)) (l.drop (64 * (l.length / 64))) (8 * l.length) := by
  have hlen := padL_length l
  have hq : 64 * (l.length / 64) ≤ l.length := by omega
  have hfr : absorb s (padL l) (l.length / 64) = absorb s l (l.length / 64) := absorb_front s l _ _ hq
  have hdr : (padL l).drop (64 * (l.length / 64)) = l.drop (64 * (l.length / 64)) ++ ([128] ++ List.replicate (zerosL l.length) 0 ++ beL 8 (8 * l.length)) := by
    unfold padL
    rw [List.drop_append_of_le_length hq]
  have hr : (l.drop (64 * (l.length / 64))).length = l.length % 64 := by rw [List.length_drop]; omega
  generalize l.drop (64 * (l.length / 64)) = r at *
  have hz : zerosL l.length = if l.length % 64 ≤ 55 then 55 - l.length % 64 else 119 - l.length % 64 := rfl
  rw [← hr] at hz
  generalize 8 * l.length = L at *
  generalize zerosL l.length = z at *
  unfold lastS
  by_cases h : l.length % 64 ≤ 55
  · rw [if_pos h] at hlen
    rw [if_pos (by omega)] at hz
    rw [if_pos (by omega), hlen, Nat.mul_div_cancel_left _ (by omega), absorb, hfr, hdr, hz]
    congr 1
    rw [List.take_of_length_le (by simp [beL_length]; omega)]
    simp
  · rw [if_neg h] at hlen
    rw [if_neg (by omega)] at hz
    rw [if_neg (by omega), hlen, Nat.mul_div_cancel_left _ (by omega), absorb, absorb, hfr]
    have e2 : (padL l).drop (64 * (l.length / 64 + 1)) = ((padL l).drop (64 * (l.length / 64))).drop 64 := by rw [List.drop_drop]; congr 1
    rw [e2, hdr, hz]
    have hr2 : r.length < 64 := by omega
    have e3 : List.replicate (119 - r.length) (0 : UInt8) = List.replicate (63 - r.length) 0 ++ List.replicate 56 0 := by
      rw [List.replicate_append_replicate]; congr 1; omega
    have e4 : r ++ ([128] ++ List.replicate (119 - r.length) 0 ++ beL 8 L) = (r ++ [128] ++ List.replicate (63 - r.length) 0) ++ (List.replicate 56 0 ++ beL 8 L) := by
      rw [e3]; simp
    have e5 : (r ++ [128] ++ List.replicate (63 - r.length) (0 : UInt8)).length = 64 := by simp; omega
    rw [e4, List.take_append_of_le_length (by omega), List.take_of_length_le (by omega), List.drop_append_of_le_length (by omega), List.drop_of_length_le (by omega), List.nil_append, List.take_of_length_le (by simp [beL_length])]

theorem shaL_pad (l : List UInt8) : shaL l = outS (absorb H0 (padL l) ((padL l).length / 64)) := by rw [shaL, absorb_pad]

end Go.Pal
