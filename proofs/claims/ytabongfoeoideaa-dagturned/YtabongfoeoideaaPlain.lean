/-
  Plain mathematics for layer 1: numbers as bytes, the highest first. No program in sight.
-/
import Derived.Laws.BytesArg
import Derived.Laws.Concat
namespace Go.Pal

/-- A number in so many bytes, the highest first. -/
def beL : Nat → Nat → List UInt8
  | 0, _ => []
  | k + 1, n => beL k (n / 256) ++ [UInt8.ofNat n]

def be (k n : Nat) : ByteArray := ⟨(beL k n).toArray⟩

theorem beL_length : ∀ (k n : Nat), (beL k n).length = k
  | 0, _ => rfl
  | k + 1, n => by simp [beL, beL_length k]

theorem be_size (k n : Nat) : (be k n).size = k := by
  show (beL k n).toArray.size = k
  simp [beL_length]

/-- The number of bytes. -/
def valL (l : List UInt8) : Nat := l.foldl (fun n b => 256 * n + b.toNat) 0

theorem valL_snoc (l : List UInt8) (b : UInt8) : valL (l ++ [b]) = 256 * valL l + b.toNat := by
  simp [valL, List.foldl_append]

theorem valL_beL : ∀ (k n : Nat), n < 256 ^ k → valL (beL k n) = n
  | 0, n, h => by simp at h; subst h; rfl
  | k + 1, n, h => by
    rw [beL, valL_snoc, valL_beL k (n / 256) (by rw [Nat.pow_succ] at h; omega)]
    simp
    omega

theorem valL_lt : ∀ (l : List UInt8), valL l < 256 ^ l.length := by
  intro l
  induction hl : l.length generalizing l with
  | zero =>
    have : l = [] := List.eq_nil_of_length_eq_zero hl
    subst this; decide
  | succ k ih =>
    obtain ⟨l', b, rfl⟩ : ∃ l' b, l = l' ++ [b] := ⟨l.dropLast, l.getLast (by intro h; simp [h] at hl), (List.dropLast_concat_getLast _).symm⟩
    have h1 : l'.length = k := by simpa using hl
    have := ih l' h1
    rw [valL_snoc]
    have hb := b.toNat_lt
    rw [Nat.pow_succ]
    omega

theorem strOfNums1 (a : Int) : strOfNums [a] = ⟨#[UInt8.ofNat a.toNat]⟩ := rfl
theorem be1 (n : Nat) : be 1 n = ⟨#[UInt8.ofNat n]⟩ := rfl
theorem be2 (n : Nat) : be 2 n = ⟨#[UInt8.ofNat (n / 256), UInt8.ofNat n]⟩ := rfl
theorem be4 (n : Nat) : be 4 n = ⟨#[UInt8.ofNat (n / 256 / 256 / 256), UInt8.ofNat (n / 256 / 256), UInt8.ofNat (n / 256), UInt8.ofNat n]⟩ := rfl

theorem ofNat_mod (n : Nat) : UInt8.ofNat (n % 256) = UInt8.ofNat n := by
  apply UInt8.toNat.inj; simp

end Go.Pal
