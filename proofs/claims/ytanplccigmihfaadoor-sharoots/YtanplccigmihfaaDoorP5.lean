/-
  Contracts of the document's root, Key, Start, Table: each word is the root of a prime.
-/
import Derived.Test.YtanplccigmihfaaDoorP1
import Derived.Test.YtanplccigmihfaaDoorP4
namespace Go.Pal
/-- 2^32 times the cube roots of the first 64 primes, and the square roots of the first 8, cut down. -/
def cubesL : List Nat := [5411319704, 6194414737, 7344290767, 8215976869, 9551921755, 10098905585, 11043570340, 11460697813, 12214315672, 13195500289, 13492127166, 14311783875, 14809980276, 15046980094, 15499789991, 16133124468, 16720292289, 16907126662, 17444216262, 17784676812, 17950125167, 18429019306, 18734950876, 19175934170, 19734090066, 20001703533, 20132865992, 20390182855, 20516441075, 20764397895, 21588763473, 21813078375, 22141143685, 22248366392, 22769593852, 22871018771, 23170020180, 23461497531, 23651862830, 23931792517, 24205322401, 24295138891, 24734567280, 24820601251, 24990902297, 25075189284, 25569408389, 26045227120, 26200031510, 26276752392, 26428864332, 26653801653, 26727943347, 27092625994, 27306805839, 27517677555, 27725365998, 27793908591, 27997534228, 28131656200, 28198240250, 28526537963, 28973835255, 29099129074]
def squaresL : List Nat := [6074000999, 7439101573, 9603838834, 11363415354, 14244795007, 15485724812, 17708603819, 18721328409]
theorem cube_is : ∀ k, k < 64 → (cubesL.getD k 0) ^ 3 ≤ primeAt k * 65536 ^ (2 * 3) ∧ primeAt k * 65536 ^ (2 * 3) < (cubesL.getD k 0 + 1) ^ 3 ∧ cubesL.getD k 0 < 68719476736 ∧ ((cubesL.getD k 0 % 4294967296 : Nat) : Int) = u (Kt.getD k 0) := by decide +kernel
theorem square_is : ∀ k, k < 8 → (squaresL.getD k 0) ^ 2 ≤ primeAt k * 65536 ^ (2 * 2) ∧ primeAt k * 65536 ^ (2 * 2) < (squaresL.getD k 0 + 1) ^ 2 ∧ squaresL.getD k 0 < 68719476736 ∧ ((squaresL.getD k 0 % 4294967296 : Nat) : Int) = u (Ht.getD k 0) := by decide +kernel
end Go.Pal
namespace Go.Proofs.YtanplccigmihfaaDoor
open Go.RowKit Go.Pal

set_option maxHeartbeats 1000000 in
theorem root_any (n b r : Nat) (hb : b ≤ 3) (hn : n ≤ 1000) (h1 : r ^ b ≤ n * 65536 ^ (2 * b)) (h2 : n * 65536 ^ (2 * b) < (r + 1) ^ b) (hr : r < 68719476736) (w : World) :
    Calls Tryd.prog 19 #[.int .i64 (n : Int), .int .i64 (b : Int)] w fun e w' => e = .returned (.int .u32 ((r % 4294967296 : Nat) : Int)) ∧ Below w.heap.size w w' := by
  have HBE := Lib.hid (fun (x : Nat) (hx : x < 68719476737) (W : World) => by
    have h := below_any x b n hx hb hn W
    rw [root_dec h1 h2] at h
    exact h)
  clear h1 h2
  go_enter Tryd.func19, Tryd.ntmps19
  go_wp2
  go_loopw [5, 6] (fun vl vh wr => ∃ lo hi : Nat, vl = .int .u64 lo ∧ vh = .int .u64 hi ∧ lo ≤ r ∧ r < hi ∧ hi ≤ 68719476736 ∧ Below w.heap.size w wr) (fun vl vh _ => (intOf vh).toNat - (intOf vl).toNat)
  case atStart => exact ⟨0, 68719476736, rfl, rfl, by omega, by omega, by omega, Below.refl _ _⟩
  case round =>
    obtain ⟨lo, hi, rfl, rfl, hl, hh, hm, hbel⟩ := hrel
    have HB := Lib.hid hbel
    clear hbel
    by_cases hlt : lo + 1 < hi
    · obtain ⟨mid, hmid⟩ : ∃ mid, mid = (lo + hi) / 2 := ⟨_, rfl⟩
      have hq : ((lo : Int) + (hi : Int)) / 2 = (mid : Int) := by omega
      have hm1 : lo < mid := by omega
      have hm2 : mid < hi := by omega
      have hltd : decide ((lo : Int) + 1 < (hi : Int)) = true := decide_eq_true (by omega)
      clear hmid
      have HC := Lib.hid (fun W => HBE.out mid (by omega) W)
      by_cases hmr : mid ≤ r
      · rw [decide_eq_true hmr] at HC
        go_wp2_with fail
        refine (HC.out _).mono ?_
        rintro e w1 ⟨rfl, b1⟩
        have B1 := Lib.hid b1
        clear b1
        go_wp2
        go_roundw
        case rel => exact ⟨mid, hi, rfl, rfl, hmr, hh, hm, HB.out.trans (B1.out.mono HB.out.size)⟩
        case measure => simp [intOf] <;> omega
      · rw [decide_eq_false hmr] at HC
        go_wp2_with fail
        refine (HC.out _).mono ?_
        rintro e w1 ⟨rfl, b1⟩
        have B1 := Lib.hid b1
        clear b1
        go_wp2
        go_roundw
        case rel => exact ⟨lo, mid, rfl, rfl, hl, by omega, by omega, HB.out.trans (B1.out.mono HB.out.size)⟩
        case measure => simp [intOf] <;> omega
    · obtain rfl : lo = r := by omega
      have hltd : decide ((lo : Int) + 1 < (hi : Int)) = false := decide_eq_false (by omega)
      go_wp2
      go_ret
      exact ⟨by go_num, HB.out⟩

theorem key_any (k : Nat) (hk : k < 64) (w : World) :
    Calls Tryd.prog 9 #[.int .i64 (k : Int)] w fun e w' => e = .returned (.int .u32 (u (Kt.getD k 0))) ∧ Below w.heap.size w w' := by
  obtain ⟨h1, h2, h3, h4⟩ := cube_is k hk
  have HP := Lib.hid (fun W => prime_any k hk W)
  have HR := Lib.hid (fun W => root_any (primeAt k) 3 (cubesL.getD k 0) (by omega) (by have := (prime_is k hk).2.2.1; omega) h1 h2 h3 W)
  rw [h4] at HR
  clear h1 h2 h3 h4
  go_enter Tryd.func9, Tryd.ntmps9
  go_wp2_with fail
  refine (HP.out _).mono ?_
  rintro e w1 ⟨rfl, rfl⟩
  go_wp2_with fail
  refine (HR.out _).mono ?_
  rintro e w1 ⟨rfl, b1⟩
  go_wp2
  go_ret
  exact ⟨rfl, b1⟩

theorem start_any (k : Nat) (hk : k < 8) (w : World) :
    Calls Tryd.prog 11 #[.int .i64 (k : Int)] w fun e w' => e = .returned (.int .u32 (u (Ht.getD k 0))) ∧ Below w.heap.size w w' := by
  obtain ⟨h1, h2, h3, h4⟩ := square_is k hk
  have HP := Lib.hid (fun W => prime_any k (by omega) W)
  have HR := Lib.hid (fun W => root_any (primeAt k) 2 (squaresL.getD k 0) (by omega) (by have := (prime_is k (by omega)).2.2.1; omega) h1 h2 h3 W)
  rw [h4] at HR
  clear h1 h2 h3 h4
  go_enter Tryd.func11, Tryd.ntmps11
  go_wp2_with fail
  refine (HP.out _).mono ?_
  rintro e w1 ⟨rfl, rfl⟩
  go_wp2_with fail
  refine (HR.out _).mono ?_
  rintro e w1 ⟨rfl, b1⟩
  go_wp2
  go_ret
  exact ⟨rfl, b1⟩

end Go.Proofs.YtanplccigmihfaaDoor
