/-
  Plain mathematics for layer 8: CRC-32, bit by bit; what turned bits make of it. No program in sight.
-/
import Derived.Test.YtffnkomnldgcaaaGreatDoorPlain
namespace Go.Pal.Cr
open Go.Pal

def poly : BitVec 32 := 0xedb88320#32
/-- One bit shifted out. -/
def crStep (r : BitVec 32) : BitVec 32 := (r >>> 1) ^^^ (if r.getLsbD 0 then poly else 0#32)
def bit (b : Bool) : BitVec 32 := if b then 1#32 else 0#32
theorem bit_get (b : Bool) (i : Nat) : (bit b).getLsbD i = (b && decide (i = 0)) := by
  cases b
  · simp [bit]
  · simp [bit, BitVec.getLsbD_one]

theorem step_get (r : BitVec 32) (i : Nat) : (crStep r).getLsbD i = (r.getLsbD (i + 1) ^^ (r.getLsbD 0 && poly.getLsbD i)) := by
  unfold crStep
  rw [BitVec.getLsbD_xor, BitVec.getLsbD_ushiftRight, Nat.add_comm 1 i]
  cases r.getLsbD 0 <;> simp
theorem step_xor (a b : BitVec 32) : crStep (a ^^^ b) = crStep a ^^^ crStep b := by
  apply BitVec.eq_of_getLsbD_eq
  intro i hi
  rw [BitVec.getLsbD_xor, step_get, step_get, step_get, BitVec.getLsbD_xor, BitVec.getLsbD_xor]
  cases a.getLsbD (i + 1) <;> cases b.getLsbD (i + 1) <;> cases a.getLsbD 0 <;> cases b.getLsbD 0 <;> cases poly.getLsbD i <;> rfl
theorem step_zero : crStep 0#32 = 0#32 := by decide
/-- Of what the register was the crStep tells all. -/
theorem step_low (a : BitVec 32) : (crStep a).getLsbD 31 = a.getLsbD 0 := by
  rw [step_get a 31]
  have h : a.getLsbD (31 + 1) = false := BitVec.getLsbD_of_ge a 32 (by decide)
  rw [h, show poly.getLsbD 31 = true by decide]
  simp

/-! Registers over bits. -/
def regs (r : BitVec 32) (f : Nat → Bool) : Nat → BitVec 32
  | 0 => r
  | j + 1 => crStep (regs r f j ^^^ bit (f j))
theorem regs_congr (r : BitVec 32) (f g : Nat → Bool) : ∀ n, (∀ j, j < n → f j = g j) → regs r f n = regs r g n
  | 0, _ => rfl
  | n + 1, h => by rw [regs, regs, regs_congr r f g n (fun j hj => h j (by omega)), h n (by omega)]
theorem regs_add (r : BitVec 32) (f : Nat → Bool) (m : Nat) : ∀ n, regs r f (m + n) = regs (regs r f m) (fun i => f (m + i)) n
  | 0 => rfl
  | n + 1 => by rw [← Nat.add_assoc, regs, regs, regs_add r f m n]
theorem bit_xor (b c : Bool) : bit (b ^^ c) = bit b ^^^ bit c := by cases b <;> cases c <;> decide
theorem xor4 (a b c d : BitVec 32) : (a ^^^ b) ^^^ (c ^^^ d) = (a ^^^ c) ^^^ (b ^^^ d) := by
  rw [BitVec.xor_assoc, BitVec.xor_assoc, ← BitVec.xor_assoc b c d, BitVec.xor_comm b c, BitVec.xor_assoc c b d]
theorem regs_xor (a b : BitVec 32) (f g : Nat → Bool) : ∀ n, regs (a ^^^ b) (fun j => f j ^^ g j) n = regs a f n ^^^ regs b g n
  | 0 => rfl
  | n + 1 => by rw [regs, regs, regs, regs_xor a b f g n, bit_xor, xor4, step_xor]
theorem regs_quiet (d : Nat → Bool) : ∀ n, (∀ j, j < n → d j = false) → regs 0#32 d n = 0#32
  | 0, _ => rfl
  | n + 1, h => by rw [regs, regs_quiet d n (fun j hj => h j (by omega)), h n (by omega)]; decide
/-- A register that has come to nothing: it held just the bits that came since. -/
theorem regs_back (d : Nat → Bool) (N : Nat) (h0 : regs 0#32 d N = 0#32) : ∀ i, i ≤ 32 → i ≤ N → ∀ t, t < 32 → (regs 0#32 d (N - i)).getLsbD t = (decide (t < i) && d (N - i + t))
  | 0, _, _, t, _ => by simp [h0]
  | i + 1, hi, hN, t, ht => by
    have ih := regs_back d N h0 i (by omega) (by omega)
    have e : N - i = (N - (i + 1)) + 1 := by omega
    generalize hE : regs 0#32 d (N - (i + 1)) = E at *
    generalize hm : N - (i + 1) = m at *
    rw [e, regs, hE] at ih
    have hlow : (E ^^^ bit (d m)).getLsbD 0 = false := by
      rw [← step_low, ih 31 (by decide)]
      simp; omega
    have hE0 : E.getLsbD 0 = d m := by
      rw [BitVec.getLsbD_xor, bit_get] at hlow
      cases h1 : E.getLsbD 0 <;> cases h2 : d m <;> rw [h1, h2] at hlow <;> simp at hlow <;> rfl
    cases t with
    | zero => rw [hE0]; simp
    | succ s =>
      have := ih s (by omega)
      rw [step_get, hlow, BitVec.getLsbD_xor, bit_get] at this
      simp at this
      rw [this]
      rw [show m + 1 + s = m + (s + 1) by omega]
      by_cases hs : s < i <;> simp [hs] <;> omega
/-- Nothing but noughts behind K: what comes to nothing was nothing there. -/
theorem regs_tail (d : Nat → Bool) (K : Nat) : ∀ n, (∀ j, K ≤ j → j < K + n → d j = false) → regs 0#32 d (K + n) = 0#32 → regs 0#32 d K = 0#32
  | 0, _, h => h
  | n + 1, hd, h => by
    refine regs_tail d K n (fun j h1 h2 => hd j h1 (by omega)) ?_
    have hb := regs_back d (K + (n + 1)) h 1 (by decide) (by omega)
    rw [show K + (n + 1) - 1 = K + n by omega] at hb
    apply BitVec.eq_of_getLsbD_eq
    intro i hi
    rw [hb i hi]
    by_cases h1 : i < 1
    · have : i = 0 := by omega
      subst this
      simp
      exact hd (K + n) (by omega) (by omega)
    · simp [h1]
/-- Bits that are turned within 32 side by side make another register. -/
theorem regs_turned (r : BitVec 32) (f g : Nat → Bool) (N k : Nat) (hk : k ≤ N) (hout : ∀ j, j < N → (j < k ∨ k + 32 ≤ j) → f j = g j) (h : regs r f N = regs r g N) : ∀ j, j < N → f j = g j := by
  have hd : ∀ j, (f j ^^ g j) = false ↔ f j = g j := by intro j; cases f j <;> cases g j <;> simp
  have h0 : regs 0#32 (fun j => f j ^^ g j) N = 0#32 := by
    rw [← BitVec.xor_self (x := r), regs_xor, h, BitVec.xor_self, BitVec.xor_self]
  have hk0 : regs 0#32 (fun j => f j ^^ g j) k = 0#32 := regs_quiet _ k (fun j hj => (hd j).2 (hout j (by omega) (Or.inl hj)))
  have key : ∀ i, i ≤ 32 → k + i ≤ N → regs 0#32 (fun j => f j ^^ g j) (k + i) = 0#32 → ∀ j, k ≤ j → j < k + i → f j = g j := by
    intro i hi hN hz j h1 h2
    have := regs_back (fun j => f j ^^ g j) (k + i) hz i hi (by omega) (j - k) (by omega)
    rw [show k + i - i = k by omega, hk0] at this
    simp only [BitVec.getLsbD_zero] at this
    rw [show k + (j - k) = j by omega, show decide (j - k < i) = true from decide_eq_true (by omega), Bool.true_and] at this
    exact (hd j).1 this.symm
  intro j hj
  by_cases h1 : j < k ∨ k + 32 ≤ j
  · exact hout j hj h1
  · by_cases h2 : k + 32 ≤ N
    · have hz : regs 0#32 (fun j => f j ^^ g j) (k + 32) = 0#32 := by
        refine regs_tail _ (k + 32) (N - (k + 32)) (fun j h3 h4 => (hd j).2 (hout j (by omega) (Or.inr h3))) ?_
        rw [show k + 32 + (N - (k + 32)) = N by omega]; exact h0
      exact key 32 (by omega) h2 hz j (by omega) (by omega)
    · refine key (N - k) (by omega) (by omega) ?_ j (by omega) (by omega)
      rw [show k + (N - k) = N by omega]; exact h0

/-! A whole byte at once. -/
def iter : Nat → BitVec 32 → BitVec 32
  | 0, x => x
  | n + 1, x => iter n (crStep x)
theorem iter_snoc : ∀ n x, iter (n + 1) x = crStep (iter n x)
  | 0, _ => rfl
  | n + 1, x => by rw [iter, iter_snoc n (crStep x)]; rfl
theorem regs_head (r : BitVec 32) (f : Nat → Bool) (n : Nat) : regs r f (n + 1) = regs (crStep (r ^^^ bit (f 0))) (fun i => f (i + 1)) n := by
  have h := regs_add r f 1 n
  rw [Nat.add_comm 1 n] at h
  rw [h]
  exact regs_congr _ _ _ n (fun j _ => by rw [Nat.add_comm])
theorem iter_regs : ∀ (n : Nat) (r w : BitVec 32), (∀ i, n ≤ i → w.getLsbD i = false) → iter n (r ^^^ w) = regs r (fun i => w.getLsbD i) n
  | 0, r, w, h => by
    have : w = 0#32 := by apply BitVec.eq_of_getLsbD_eq; intro i _; rw [h i (by omega)]; simp
    rw [this]; simp [iter, regs]
  | n + 1, r, w, h => by
    have hs : crStep (r ^^^ w) = crStep (r ^^^ bit (w.getLsbD 0)) ^^^ (w >>> 1) := by
      apply BitVec.eq_of_getLsbD_eq
      intro i hi
      rw [BitVec.getLsbD_xor, step_get, step_get, BitVec.getLsbD_xor, BitVec.getLsbD_xor, BitVec.getLsbD_xor, BitVec.getLsbD_xor, bit_get, bit_get, BitVec.getLsbD_ushiftRight, Nat.add_comm 1 i]
      rw [show decide (i + 1 = 0) = false from decide_eq_false (by omega), show decide (0 = 0) = true from rfl]
      cases r.getLsbD (i + 1) <;> cases w.getLsbD (i + 1) <;> cases r.getLsbD 0 <;> cases w.getLsbD 0 <;> cases poly.getLsbD i <;> rfl
    rw [iter, hs, iter_regs n _ (w >>> 1) (fun i hi => by rw [BitVec.getLsbD_ushiftRight]; exact h _ (by omega)), regs_head]
    exact regs_congr _ _ _ n (fun j _ => by rw [BitVec.getLsbD_ushiftRight, Nat.add_comm])

/-! Bytes. -/
def updB (r : BitVec 32) (b : UInt8) : BitVec 32 := iter 8 (r ^^^ BitVec.ofNat 32 b.toNat)
def crcB (r : BitVec 32) (l : List UInt8) : BitVec 32 := l.foldl updB r
def bitAt (l : List UInt8) (j : Nat) : Bool := (l.getD (j / 8) 0).toNat.testBit (j % 8)
theorem crcB_snoc (r : BitVec 32) (l : List UInt8) (b : UInt8) : crcB r (l ++ [b]) = updB (crcB r l) b := by simp [crcB, List.foldl_append]
theorem crcB_app (r : BitVec 32) (l m : List UInt8) : crcB r (l ++ m) = crcB (crcB r l) m := by simp [crcB, List.foldl_append]
theorem byte_high (b : UInt8) (i : Nat) (hi : 8 ≤ i) : b.toNat.testBit i = false := by
  apply Nat.testBit_lt_two_pow
  have h := b.toNat_lt
  have h2 : 2 ^ 8 ≤ 2 ^ i := Nat.pow_le_pow_right (by decide) hi
  omega
theorem byte_get (b : UInt8) (i : Nat) : (BitVec.ofNat 32 b.toNat).getLsbD i = b.toNat.testBit i := by
  rw [BitVec.getLsbD_ofNat]
  by_cases h : i < 32
  · simp [h]
  · simp [h, byte_high b i (by omega)]
theorem updB_regs (r : BitVec 32) (b : UInt8) : updB r b = regs r (fun i => b.toNat.testBit i) 8 := by
  unfold updB
  rw [iter_regs 8 r _ (fun i hi => by rw [byte_get]; exact byte_high b i hi)]
  exact regs_congr _ _ _ 8 (fun j _ => byte_get b j)
theorem crcB_regs_take (r : BitVec 32) (l : List UInt8) : ∀ n, n ≤ l.length → crcB r (l.take n) = regs r (bitAt l) (8 * n)
  | 0, _ => rfl
  | n + 1, h => by
    rw [List.take_succ_eq_append_getElem (by omega), crcB_snoc, crcB_regs_take r l n (by omega), updB_regs, show 8 * (n + 1) = 8 * n + 8 by omega, regs_add]
    refine regs_congr _ _ _ 8 (fun j hj => ?_)
    unfold bitAt
    rw [show (8 * n + j) / 8 = n by omega, show (8 * n + j) % 8 = j by omega]
    simp [List.getD_eq_getElem?_getD, List.getElem?_eq_getElem (show n < l.length by omega)]
theorem crcB_regs (r : BitVec 32) (l : List UInt8) : crcB r l = regs r (bitAt l) (8 * l.length) := by
  have := crcB_regs_take r l l.length (Nat.le_refl _)
  rwa [List.take_length] at this
theorem bitAt_ext (l m : List UInt8) (hl : l.length = m.length) (h : ∀ j, j < 8 * l.length → bitAt l j = bitAt m j) : l = m := by
  apply List.ext_getElem hl
  intro i h1 h2
  apply UInt8.toNat.inj
  apply Nat.eq_of_testBit_eq
  intro t
  by_cases ht : t < 8
  · have := h (8 * i + t) (by omega)
    unfold bitAt at this
    rw [show (8 * i + t) / 8 = i by omega, show (8 * i + t) % 8 = t by omega] at this
    simpa [List.getD_eq_getElem?_getD, List.getElem?_eq_getElem h1, List.getElem?_eq_getElem h2] using this
  · rw [byte_high _ _ (by omega), byte_high _ _ (by omega)]

/-- The sum of bytes behind bytes that have a sum. -/
def moreB (sum : BitVec 32) (s : ByteArray) : BitVec 32 := ~~~ (crcB (~~~ sum) s.data.toList)
theorem moreB_pieces (a b : ByteArray) : moreB (moreB 0#32 a) b = moreB 0#32 (a ++ b) := by
  unfold moreB
  rw [BitVec.not_not, ByteArray.data_append, Array.toList_append, crcB_app]
theorem moreB_turned (sum : BitVec 32) (s t : ByteArray) (k : Nat) (hl : s.size = t.size) (hk : k ≤ 8 * s.size)
    (hout : ∀ j, j < 8 * s.size → (j < k ∨ k + 32 ≤ j) → bitAt s.data.toList j = bitAt t.data.toList j) (h : moreB sum s = moreB sum t) : s = t := by
  have e1 : s.data.toList.length = s.size := by simp
  have e2 : t.data.toList.length = t.size := by simp
  unfold moreB at h
  have h2 := congrArg (~~~ ·) h
  simp only [BitVec.not_not] at h2
  rw [crcB_regs, crcB_regs, e1, e2, ← hl] at h2
  have h3 := regs_turned (~~~ sum) _ _ (8 * s.size) k hk hout h2
  have h4 := bitAt_ext s.data.toList t.data.toList (by rw [e1, e2, hl]) (by rw [e1]; exact h3)
  rw [ByteArray.ext_iff]
  exact Array.toList_inj.1 h4

/-! One bit turned. -/
def flip (l : List UInt8) (j : Nat) : List UInt8 := l.set (j / 8) (UInt8.ofNat ((l.getD (j / 8) 0).toNat ^^^ 2 ^ (j % 8)))
theorem flip_length (l : List UInt8) (j : Nat) : (flip l j).length = l.length := by simp [flip]
theorem flip_bit (l : List UInt8) (j t : Nat) (hj : j / 8 < l.length) : bitAt (flip l j) t = (bitAt l t ^^ decide (t = j)) := by
  unfold bitAt flip
  by_cases h : t / 8 = j / 8
  · have hlt : (l.getD (j / 8) 0).toNat ^^^ 2 ^ (j % 8) < 256 := by
      have h1 := (l.getD (j / 8) 0).toNat_lt
      have h2 : 2 ^ (j % 8) < 2 ^ 8 := Nat.pow_lt_pow_right (by decide) (by omega)
      exact Nat.xor_lt_two_pow (n := 8) (by omega) h2
    rw [h]
    have e : (l.set (j / 8) (UInt8.ofNat ((l.getD (j / 8) 0).toNat ^^^ 2 ^ (j % 8)))).getD (j / 8) 0 = UInt8.ofNat ((l.getD (j / 8) 0).toNat ^^^ 2 ^ (j % 8)) := by
      simp [List.getD_eq_getElem?_getD, List.getElem?_set_self hj]
    rw [e, UInt8.toNat_ofNat_of_lt' hlt, Nat.testBit_xor, Nat.testBit_two_pow]
    congr 1
    by_cases h2 : t = j
    · subst h2; simp
    · rw [decide_eq_false h2, decide_eq_false (by omega)]
  · have e : (l.set (j / 8) (UInt8.ofNat ((l.getD (j / 8) 0).toNat ^^^ 2 ^ (j % 8)))).getD (t / 8) 0 = l.getD (t / 8) 0 := by
      simp [List.getD_eq_getElem?_getD, List.getElem?_set_ne (fun hh => h hh.symm)]
    rw [e, decide_eq_false (by intro hh; subst hh; exact h rfl), Bool.xor_false]
/-- The first n bits of a pattern, turned from bit k on. -/
def turnL (bits k : Nat) (l : List UInt8) : Nat → List UInt8
  | 0 => l
  | n + 1 => if bits.testBit n then flip (turnL bits k l n) (k + n) else turnL bits k l n
theorem turnL_length (bits k : Nat) (l : List UInt8) : ∀ n, (turnL bits k l n).length = l.length
  | 0 => rfl
  | n + 1 => by rw [turnL]; split <;> simp [flip_length, turnL_length bits k l n]
theorem turnL_out (bits k : Nat) (l : List UInt8) : ∀ n, n ≤ 32 → k + n ≤ 8 * l.length → ∀ t, (t < k ∨ k + 32 ≤ t) → bitAt (turnL bits k l n) t = bitAt l t
  | 0, _, _, _, _ => rfl
  | n + 1, hn, hl, t, ht => by
    have ih := turnL_out bits k l n (by omega) (by omega) t ht
    rw [turnL]
    split
    · rw [flip_bit _ _ _ (by rw [turnL_length]; omega), ih, decide_eq_false (by omega), Bool.xor_false]
    · exact ih

end Go.Pal.Cr
