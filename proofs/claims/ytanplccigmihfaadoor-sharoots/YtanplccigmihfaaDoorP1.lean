/-
  Contracts of the document's isPrime and prime.
-/
import Derived.Test.YtanplccigmihfaaDoorRefSum
namespace Go.Pal
/-- No number from 2 on whose square is at most p divides p. -/
def primeB (p : Nat) : Bool := (List.range (p + 1)).all fun d => decide (d < 2) || decide (p < d * d) || decide (p % d ≠ 0)
theorem primeB_no (p d : Nat) (h2 : 2 ≤ d) (hd : d * d ≤ p) (h : p % d = 0) : primeB p = false := by
  cases e : primeB p
  · rfl
  · have hle : d ≤ p := Nat.le_trans (Nat.le_mul_self d) hd
    have := List.all_eq_true.1 e d (List.mem_range.2 (by omega))
    simp at this
    omega
theorem primeB_yes (p : Nat) (h : ∀ d, 2 ≤ d → d * d ≤ p → p % d ≠ 0) : primeB p = true := by
  apply List.all_eq_true.2
  intro d _
  by_cases h1 : d < 2
  · simp [h1]
  · by_cases h2 : p < d * d
    · simp [h2]
    · have := h d (by omega) (by omega)
      simp [this]
/-- The first 64 primes. -/
def primesL : List Nat := [2, 3, 5, 7, 11, 13, 17, 19, 23, 29, 31, 37, 41, 43, 47, 53, 59, 61, 67, 71, 73, 79, 83, 89, 97, 101, 103, 107, 109, 113, 127, 131, 137, 139, 149, 151, 157, 163, 167, 173, 179, 181, 191, 193, 197, 199, 211, 223, 227, 229, 233, 239, 241, 251, 257, 263, 269, 271, 277, 281, 283, 293, 307, 311]
def primeAt (n : Nat) : Nat := primesL.getD n 0
/-- The number behind which the n-th prime is sought. -/
def aheadOf (n : Nat) : Nat := (1 :: primesL).getD n 0
theorem prime_is : ∀ n, n < 64 → primeB (primeAt n) = true ∧ aheadOf n < primeAt n ∧ primeAt n ≤ 311 ∧ aheadOf (n + 1) = primeAt n := by decide +kernel
theorem prime_gap : ∀ n, n < 64 → ∀ q, q < 312 → aheadOf n < q → q < primeAt n → primeB q = false := by decide +kernel
end Go.Pal
namespace Go.Proofs.YtanplccigmihfaaDoor
open Go.RowKit Go.Pal

set_option maxHeartbeats 1000000 in
theorem isprime_any (p : Nat) (hp : p ≤ 1000) (w : World) :
    Calls Tryd.prog 27 #[.int .i64 (p : Int)] w fun e w' => e = .returned (.bool (primeB p)) ∧ w = w' := by
  have HN := Lib.hid (primeB_no p)
  have HY := Lib.hid (primeB_yes p)
  go_enter Tryd.func27, Tryd.ntmps27
  go_wp2
  go_loop [3] (fun i => ∃ d : Nat, 2 ≤ d ∧ d ≤ 1002 ∧ i = .int .i64 d ∧ ∀ j, 2 ≤ j → j < d → p % j ≠ 0) (fun i => 1002 - (intOf i).toNat)
  case atStart => exact ⟨2, by omega, by omega, rfl, fun j h1 h2 => by omega⟩
  case round =>
    obtain ⟨d, h2, h3, rfl, hall⟩ := hrel
    have HALL := Lib.hid hall
    clear hall
    obtain ⟨D2, hD2⟩ : ∃ D2, D2 = d * d := ⟨_, rfl⟩
    have hm : (d : Int) * (d : Int) = (D2 : Int) := by rw [hD2, Int.natCast_mul]
    have hDb : D2 ≤ 1004004 := by rw [hD2]; exact Nat.mul_le_mul h3 h3
    by_cases hsq : D2 ≤ p
    · have hdp : d ≤ p := Nat.le_trans (Nat.le_mul_self d) (by omega)
      by_cases hz : p % d = 0
      · have hq : ((p : Int) % (d : Int) == 0) = true := by
          rw [beq_iff_eq, ← Int.natCast_emod, hz]; rfl
        have hr := HN.out d h2 (by omega) hz
        have HR := Lib.hid hr
        clear hr hz hD2
        go_wp2
        go_ret
        rw [HR.out]
        exact ⟨rfl, rfl⟩
      · have hq : ((p : Int) % (d : Int) == 0) = false := by
          rw [beq_eq_false_iff_ne, ← Int.natCast_emod]; omega
        have HZ := Lib.hid hz
        clear hz hD2
        go_wp2
        go_round
        case rel =>
          refine ⟨d + 1, by omega, by omega, by go_num, fun j h1 h4 => ?_⟩
          by_cases hj : j = d
          · subst hj; exact HZ.out
          · exact HALL.out j h1 (by omega)
        case measure => simp [intOf]; omega
    · have hr := HY.out (fun j h1 h4 => HALL.out j h1 (by
        rcases Nat.lt_or_ge j d with h | h
        · exact h
        · have := Nat.mul_le_mul h h; omega))
      have HR := Lib.hid hr
      clear hr hD2
      go_wp2
      go_ret
      rw [HR.out]
      exact ⟨rfl, rfl⟩

set_option maxHeartbeats 1000000 in
theorem prime_any (n : Nat) (hn : n < 64) (w : World) :
    Calls Tryd.prog 20 #[.int .i64 (n : Int)] w fun e w' => e = .returned (.int .i64 (primeAt n : Nat)) ∧ w = w' := by
  have HIS := Lib.hid prime_is
  have HGAP := Lib.hid prime_gap
  have H0 := Lib.hid (show aheadOf 0 = 1 from rfl)
  generalize hA : aheadOf = A at *
  generalize hP : primeAt = P at *
  clear hA hP
  go_enter Tryd.func20, Tryd.ntmps20
  go_wp2
  go_loop [3, 4] (fun vp vk => ∃ k p : Nat, k ≤ n + 1 ∧ vk = .int .i64 k ∧ vp = .int .i64 p ∧ p = A k ∧ p ≤ 311) (fun _ vk => n + 1 - (intOf vk).toNat)
  case atStart => exact ⟨0, 1, by omega, rfl, rfl, H0.out.symm, by omega⟩
  case round =>
    obtain ⟨k, p, hk, rfl, rfl, hp, hpb⟩ := hrel
    by_cases hlt : k ≤ n
    · obtain ⟨h1, h2, h3, h4⟩ := HIS.out k (by omega)
      have hgap := HGAP.out k (by omega)
      rw [← hp] at h2 hgap
      have HH1 := Lib.hid h1
      have HH4 := Lib.hid h4
      have HG := Lib.hid hgap
      generalize P k = Pk at *
      clear h1 h4 hgap hp
      go_wp2
      go_loop [3] (fun vq => ∃ q : Nat, p < q ∧ q ≤ Pk ∧ vq = .int .i64 q) (fun vq => Pk - (intOf vq).toNat)
      case atStart => exact ⟨p + 1, by omega, by omega, by go_num⟩
      case round =>
        obtain ⟨q, hq1, hq2, rfl⟩ := hrel
        by_cases hql : q < Pk
        · have HP := Lib.hid (isprime_any q (by omega) w)
          rw [HG.out q (by omega) hq1 hql] at HP
          go_wp2_with fail
          refine HP.out.mono ?_
          rintro e w1 ⟨rfl, rfl⟩
          go_wp2
          go_round
          case rel => exact ⟨q + 1, by omega, by omega, by go_num⟩
          case measure => simp [intOf]; omega
        · obtain rfl : q = Pk := by omega
          have HP := Lib.hid (isprime_any q (by omega) w)
          rw [HH1.out] at HP
          go_wp2_with fail
          refine HP.out.mono ?_
          rintro e w1 ⟨rfl, rfl⟩
          go_wp2
          go_round
          case rel => exact ⟨k + 1, q, by omega, by go_num, rfl, HH4.out.symm, by omega⟩
          case measure => simp [intOf]; omega
    · obtain rfl : k = n + 1 := by omega
      have h4 := (HIS.out n hn).2.2.2
      rw [h4] at hp
      have HPP := Lib.hid hp
      clear hp h4
      go_wp2
      go_ret
      rw [← HPP.out]
      exact ⟨rfl, rfl⟩
end Go.Proofs.YtanplccigmihfaaDoor
