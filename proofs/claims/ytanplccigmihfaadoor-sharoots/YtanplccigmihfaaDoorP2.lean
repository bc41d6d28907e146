/-
  Plain mathematics: numbers in pieces of 16 bits, the lowest first: what a piece set, a product piece by piece, and a comparison from the highest piece on come to. No program in sight.
-/
import Derived.Test.YtanplccigmihfaaDoorBlk
namespace Go.Pal

/-- What so many pieces come to. -/
def valN (f : Nat → Nat) : Nat → Nat
  | 0 => 0
  | n + 1 => valN f n + 65536 ^ n * f n
/-- A row's piece. -/
def dig (l : List Nat) (i : Nat) : Nat := l.getD i 0
/-- A piece as a value of the model. -/
def dV (d : Nat) : Value := .int .u64 (d : Int)

theorem valN_same {f g : Nat → Nat} : ∀ {n : Nat}, (∀ i, i < n → f i = g i) → valN f n = valN g n
  | 0, _ => rfl
  | n + 1, h => by
    unfold valN
    rw [valN_same (fun i hi => h i (by omega)), h n (by omega)]
theorem valN_lt {f : Nat → Nat} (h : ∀ i, f i < 65536) : ∀ n, valN f n < 65536 ^ n
  | 0 => by simp [valN]
  | n + 1 => by
    have h1 := valN_lt h n
    have h2 : 65536 ^ n * (f n + 1) ≤ 65536 ^ n * 65536 := Nat.mul_le_mul_left _ (h n)
    unfold valN
    rw [Nat.pow_succ]
    rw [Nat.mul_add, Nat.mul_one] at h2
    omega
theorem valN_zero {f : Nat → Nat} : ∀ n, (∀ i, i < n → f i = 0) → valN f n = 0
  | 0, _ => rfl
  | n + 1, h => by
    unfold valN
    rw [valN_zero n (fun i hi => h i (by omega)), h n (by omega)]
    simp
/-- Nothing stands behind. -/
theorem valN_ext {f : Nat → Nat} (m : Nat) (h : ∀ i, m ≤ i → f i = 0) : ∀ k, valN f (m + k) = valN f m
  | 0 => rfl
  | k + 1 => by
    show valN f (m + k) + 65536 ^ (m + k) * f (m + k) = _
    rw [valN_ext m h k, h (m + k) (by omega)]
    simp
theorem valN_ext' {f : Nat → Nat} (m n : Nat) (hmn : m ≤ n) (h : ∀ i, m ≤ i → f i = 0) : valN f n = valN f m := by
  have := valN_ext m h (n - m)
  rwa [Nat.add_sub_cancel' hmn] at this
/-- One place another one. -/
theorem valN_put {f g : Nat → Nat} (k : Nat) (h : ∀ i, i ≠ k → g i = f i) : ∀ n, k < n → valN g n + 65536 ^ k * f k = valN f n + 65536 ^ k * g k
  | 0, hk => absurd hk (Nat.not_lt_zero k)
  | n + 1, hk => by
    unfold valN
    by_cases e : k = n
    · subst e
      rw [valN_same (f := g) (g := f) (fun i hi => h i (by omega))]
      omega
    · have := valN_put k h n (by omega)
      rw [h n (fun e' => e e'.symm)]
      omega
/-- The highest place at which two differ tells. -/
theorem valN_less {f g : Nat → Nat} (k : Nat) (hf : ∀ i, f i < 65536) (hk : f k < g k) : ∀ n, k < n → (∀ i, k < i → i < n → f i = g i) → valN f n < valN g n
  | 0, h, _ => absurd h (Nat.not_lt_zero k)
  | n + 1, h, hs => by
    unfold valN
    by_cases e : k = n
    · subst e
      have h1 := valN_lt hf k
      have h2 : 65536 ^ k * (f k + 1) ≤ 65536 ^ k * g k := Nat.mul_le_mul_left _ hk
      rw [Nat.mul_add, Nat.mul_one] at h2
      omega
    · have := valN_less k hf hk n (by omega) (fun i h1 h2 => hs i h1 (by omega))
      rw [hs n (by omega) (by omega)]
      omega

theorem dig_map (l : List Nat) (k : Nat) (h : k < l.length) : (l.map dV)[k]? = some (.int .u64 (dig l k : Int)) := by
  simp [h, dV, dig]
theorem dig_out (l : List Nat) (k : Nat) (h : l.length ≤ k) : dig l k = 0 := by
  unfold dig
  rw [List.getD_eq_getElem?_getD, List.getElem?_eq_none h]; rfl
theorem dig_set (l : List Nat) (k d : Nat) (h : k < l.length) : dig (l.set k d) k = d := by
  unfold dig; simp [h]
theorem dig_set_other (l : List Nat) (k d i : Nat) (h : i ≠ k) : dig (l.set k d) i = dig l i := by
  unfold dig
  rw [List.getD_eq_getElem?_getD, List.getD_eq_getElem?_getD, List.getElem?_set_ne (fun e => h e.symm)]
theorem map_set (l : List Nat) (k d : Nat) : (l.map dV).set k (dV d) = (l.set k d).map dV := by
  rw [List.map_set]
theorem dig_replicate (n i : Nat) : dig (List.replicate n 0) i = 0 := by
  unfold dig
  rw [List.getD_eq_getElem?_getD, List.getElem?_replicate]
  split <;> rfl

/-- All that a product's inner round keeps. -/
structure Inner (A B O : List Nat) (i k c : Nat) : Prop where
  len : O.length = A.length + B.length + 1
  small : ∀ j, dig O j < 65536
  carry : c < 65536
  empty : ∀ j, i + B.length ≤ j → dig O j = 0
  value : valN (dig O) O.length + 65536 ^ (i + k) * c = valN (dig A) i * valN (dig B) B.length + 65536 ^ i * dig A i * valN (dig B) k
/-- All that a product's outer round keeps. -/
structure Outer (A B O : List Nat) (i : Nat) : Prop where
  len : O.length = A.length + B.length + 1
  small : ∀ j, dig O j < 65536
  empty : ∀ j, i + B.length ≤ j → dig O j = 0
  value : valN (dig O) O.length = valN (dig A) i * valN (dig B) B.length

theorem Outer.start (A B : List Nat) : Outer A B (List.replicate (A.length + B.length + 1) 0) 0 :=
  ⟨by simp, fun j => by rw [dig_replicate]; omega, fun j _ => dig_replicate _ _, by
    rw [valN_zero _ (fun i _ => dig_replicate _ i)]; simp [valN]⟩
theorem Outer.inner {A B O : List Nat} {i : Nat} (h : Outer A B O i) : Inner A B O i 0 0 :=
  ⟨h.len, h.small, by omega, fun j hj => h.empty j hj, by rw [h.value]; simp [valN]⟩
/-- What is reckoned at a place. -/
def sumAt (A B O : List Nat) (i k c : Nat) : Nat := dig O (i + k) + dig A i * dig B k + c
theorem mul_small {a b : Nat} (ha : a < 65536) (hb : b < 65536) : a * b ≤ 4294836225 := by
  have := Nat.mul_le_mul (show a ≤ 65535 by omega) (show b ≤ 65535 by omega)
  omega
theorem Inner.next {A B O : List Nat} {i k c : Nat} (h : Inner A B O i k c) (hA : ∀ j, dig A j < 65536) (hB : ∀ j, dig B j < 65536) (hi : i < A.length) (hk : k < B.length) :
    Inner A B (O.set (i + k) (sumAt A B O i k c % 65536)) i (k + 1) (sumAt A B O i k c / 65536) := by
  have hp := mul_small (hA i) (hB k)
  have hs := h.small (i + k)
  have hc := h.carry
  have hlt : i + k < O.length := by have := h.len; omega
  have hS : sumAt A B O i k c = dig O (i + k) + dig A i * dig B k + c := rfl
  have hput := valN_put (f := dig O) (g := dig (O.set (i + k) (sumAt A B O i k c % 65536))) (i + k) (fun j hj => dig_set_other _ _ _ _ hj) O.length hlt
  rw [dig_set _ _ _ hlt] at hput
  generalize sumAt A B O i k c = S at *
  refine ⟨by rw [List.length_set]; exact h.len, fun j => ?_, by omega, fun j hj => ?_, ?_⟩
  · by_cases e : j = i + k
    · rw [e, dig_set _ _ _ hlt]; omega
    · rw [dig_set_other _ _ _ _ e]; exact h.small j
  · rw [dig_set_other _ _ _ _ (by omega)]; exact h.empty j hj
  · have hv := h.value
    rw [List.length_set]
    show _ = _ + 65536 ^ i * dig A i * (valN (dig B) k + 65536 ^ k * dig B k)
    have e1 : 65536 ^ (i + (k + 1)) * (S / 65536) = 65536 ^ (i + k) * (65536 * (S / 65536)) := by
      rw [← Nat.add_assoc, Nat.pow_succ, Nat.mul_assoc]
    have e2 : 65536 ^ i * dig A i * (65536 ^ k * dig B k) = 65536 ^ (i + k) * (dig A i * dig B k) := by
      rw [Nat.pow_add]; ac_rfl
    have e3 : 65536 ^ (i + k) * (S % 65536) + 65536 ^ (i + k) * (65536 * (S / 65536)) = 65536 ^ (i + k) * S := by
      rw [← Nat.mul_add, Nat.mod_add_div]
    have e4 : 65536 ^ (i + k) * S = 65536 ^ (i + k) * dig O (i + k) + 65536 ^ (i + k) * (dig A i * dig B k) + 65536 ^ (i + k) * c := by
      rw [hS, Nat.mul_add, Nat.mul_add]
    rw [e1, Nat.mul_add, e2]
    omega
theorem Inner.outer {A B O : List Nat} {i c : Nat} (h : Inner A B O i B.length c) (hi : i < A.length) : Outer A B (O.set (i + B.length) c) (i + 1) := by
  have hlt : i + B.length < O.length := by have := h.len; omega
  have hput := valN_put (f := dig O) (g := dig (O.set (i + B.length) c)) (i + B.length) (fun j hj => dig_set_other _ _ _ _ hj) O.length hlt
  rw [dig_set _ _ _ hlt, h.empty _ (Nat.le_refl _), Nat.mul_zero, Nat.add_zero] at hput
  refine ⟨by rw [List.length_set]; exact h.len, fun j => ?_, fun j hj => ?_, ?_⟩
  · by_cases e : j = i + B.length
    · rw [e, dig_set _ _ _ hlt]; exact h.carry
    · rw [dig_set_other _ _ _ _ e]; exact h.small j
  · rw [dig_set_other _ _ _ _ (by omega)]; exact h.empty j (by omega)
  · rw [List.length_set, hput, h.value]
    show _ = (valN (dig A) i + 65536 ^ i * dig A i) * _
    rw [Nat.add_mul]

/-- A number's four pieces. -/
def piecesL (x : Nat) : List Nat := [x % 65536, x / 65536 % 65536, x / 4294967296 % 65536, x / 281474976710656]
theorem pieces_small (x : Nat) (hx : x < 68719476737) (j : Nat) : dig (piecesL x) j < 65536 := by
  unfold dig piecesL
  rcases j with _ | _ | _ | _ | j <;> simp <;> omega
theorem pieces_val (x : Nat) : valN (dig (piecesL x)) 4 = x := by
  have h0 : dig (piecesL x) 0 = x % 65536 := rfl
  have h1 : dig (piecesL x) 1 = x / 65536 % 65536 := rfl
  have h2 : dig (piecesL x) 2 = x / 4294967296 % 65536 := rfl
  have h3 : dig (piecesL x) 3 = x / 281474976710656 := rfl
  simp only [valN, h0, h1, h2, h3]
  omega

/-- n behind so many empty pieces. -/
def highL (z n : Nat) : List Nat := List.replicate z 0 ++ [n]
theorem high_low (z n i : Nat) (h : i < z) : dig (highL z n) i = 0 := by
  unfold dig highL
  rw [List.getD_eq_getElem?_getD, List.getElem?_append_left (by simpa using h), List.getElem?_replicate, if_pos h]; rfl
theorem high_at (z n : Nat) : dig (highL z n) z = n := by
  unfold dig highL
  rw [List.getD_eq_getElem?_getD, List.getElem?_append_right (by simp)]; simp
theorem high_len (z n : Nat) : (highL z n).length = z + 1 := by unfold highL; simp
theorem high_small (z n j : Nat) (hn : n < 65536) : dig (highL z n) j < 65536 := by
  rcases Nat.lt_trichotomy j z with h | h | h
  · rw [high_low z n j h]; omega
  · rw [h, high_at]; exact hn
  · rw [dig_out _ _ (by rw [high_len]; omega)]; omega
theorem high_val (z n N : Nat) (h : z < N) : valN (dig (highL z n)) N = n * 65536 ^ z := by
  rw [valN_ext' (z + 1) N (by omega) (fun i hi => dig_out _ _ (by rw [high_len]; omega))]
  show valN (dig (highL z n)) z + 65536 ^ z * dig (highL z n) z = _
  rw [valN_zero z (fun i hi => high_low z n i hi), high_at, Nat.zero_add, Nat.mul_comm]

/-- The comparison from the highest piece on. -/
theorem cmp_differ {P Q : List Nat} {m N : Nat} (hP : ∀ j, dig P j < 65536) (hQ : ∀ j, dig Q j < 65536) (hm : m < N) (hs : ∀ j, m + 1 ≤ j → j < N → dig P j = dig Q j) (hd : dig P m ≠ dig Q m) :
    decide ((dig P m : Int) < (dig Q m : Int)) = decide (valN (dig P) N ≤ valN (dig Q) N) := by
  rcases Nat.lt_or_gt_of_ne hd with h | h
  · have := valN_less m hP h N hm (fun i h1 h2 => hs i h1 h2)
    rw [decide_eq_true (by omega), decide_eq_true (by omega)]
  · have := valN_less m hQ h N hm (fun i h1 h2 => (hs i h1 h2).symm)
    rw [decide_eq_false (by omega), decide_eq_false (by omega)]
theorem cmp_same {P Q : List Nat} {N : Nat} (hs : ∀ j, j < N → dig P j = dig Q j) : decide (valN (dig P) N ≤ valN (dig Q) N) = true := by
  rw [valN_same hs]; simp

/-- A number's root, found by halving. -/
theorem root_le {x r b N : Nat} (h1 : r ^ b ≤ N) (h : x ≤ r) : x ^ b ≤ N := Nat.le_trans (Nat.pow_le_pow_left h b) h1
theorem root_gt {x r b N : Nat} (h2 : N < (r + 1) ^ b) (h : r < x) : ¬ x ^ b ≤ N := fun h3 => by
  have := Nat.pow_le_pow_left (show r + 1 ≤ x from h) b
  omega
theorem root_dec {x r b N : Nat} (h1 : r ^ b ≤ N) (h2 : N < (r + 1) ^ b) : decide (x ^ b ≤ N) = decide (x ≤ r) := by
  by_cases h : x ≤ r
  · rw [decide_eq_true h, decide_eq_true (root_le h1 h)]
  · rw [decide_eq_false h, decide_eq_false (root_gt h2 (by omega))]
end Go.Pal
