/-
  What is probably there: sizes, places, bits. No program in sight.
-/
import Derived.Test.YtbipmeogcmmhhaaPlain
import Derived.Laws.BitsLemmas
namespace Go.Pal


/-- How many bits so many ids get. -/
def sizeB (n : Int) : Nat := if n ≤ 6 then 64 else if n ≤ 12 then 128 else if n ≤ 25 then 256 else if n ≤ 51 then 512 else if n ≤ 102 then 1024 else if n ≤ 204 then 2048 else 4096
theorem sizeB_le (n : Int) : 64 ≤ sizeB n ∧ sizeB n ≤ 4096 ∧ 8 * (sizeB n / 8) = sizeB n := by
  unfold sizeB
  split
  · omega
  split
  · omega
  split
  · omega
  split
  · omega
  split
  · omega
  split
  · omega
  · omega

/-- The number with its lowest bit set. -/
def oddB (v : Nat) : Nat := v ||| 1
theorem oddB_eq (v : Nat) : oddB v = 2 * (v / 2) + 1 := by
  have h1 : (v ||| 1) / 2 = v / 2 := by rw [Nat.or_div_two]; simp
  have h2 : (v ||| 1) % 2 = 1 := Nat.or_mod_two_eq_one.2 (Or.inr rfl)
  unfold oddB
  omega
theorem odd_bits (v : Nat) (h : v < 4294967296) : bits .or .i64 (v : Int) 1 = (oddB v : Int) := by
  exact (bits_nat .i64 62 (by decide) (fun n h0 h1 => by rw [IntKind.wrap_i64]; omega) v 1 (by omega) (by omega)).2

def placedB (id : ByteArray) (m : Int) : Bool := decide (id.size = 32 ∧ 1 ≤ m ∧ m ≤ 4096)
def firstB (id : ByteArray) : Nat := valL (id.extract 0 4).data.toList
def stepB (id : ByteArray) : Nat := oddB (valL (id.extract 4 8).data.toList)
def placeB (id : ByteArray) (m : Int) (i : Nat) : Nat := (firstB id + i * stepB id) % m.toNat
def placesB (id : ByteArray) (m : Int) : List Nat := if placedB id m = true then [placeB id m 0, placeB id m 1, placeB id m 2, placeB id m 3] else []

/-- Eight bits as a number. -/
def byteOf (b0 b1 b2 b3 b4 b5 b6 b7 : Bool) : Nat := b0.toNat + 2 * b1.toNat + 4 * b2.toNat + 8 * b3.toNat + 16 * b4.toNat + 32 * b5.toNat + 64 * b6.toNat + 128 * b7.toNat
def byte8 (f : Nat → Bool) (j : Nat) : Nat := byteOf (f (8 * j)) (f (8 * j + 1)) (f (8 * j + 2)) (f (8 * j + 3)) (f (8 * j + 4)) (f (8 * j + 5)) (f (8 * j + 6)) (f (8 * j + 7))
theorem byteOf_lt (b0 b1 b2 b3 b4 b5 b6 b7 : Bool) : byteOf b0 b1 b2 b3 b4 b5 b6 b7 < 256 := by
  revert b0 b1 b2 b3 b4 b5 b6 b7; decide +kernel
theorem byte8_lt (f : Nat → Bool) (j : Nat) : byte8 f j < 256 := byteOf_lt ..
def putB (f : Nat → Bool) (p : Nat) : Nat → Bool := fun q => f q || q == p
theorem byte8_congr {f g : Nat → Bool} {j : Nat} (h : ∀ i, i < 8 → f (8 * j + i) = g (8 * j + i)) : byte8 f j = byte8 g j := by
  have h0 := h 0 (by omega)
  simp only [Nat.add_zero] at h0
  simp only [byte8, h0, h 1 (by omega), h 2 (by omega), h 3 (by omega), h 4 (by omega), h 5 (by omega), h 6 (by omega), h 7 (by omega)]
theorem byte8_other (f : Nat → Bool) (p j : Nat) (h : p / 8 ≠ j) : byte8 (putB f p) j = byte8 f j := byte8_congr fun i hi => by
  have : (8 * j + i == p) = false := by simp; omega
  simp [putB, this]
theorem orOf (i : Nat) (hi : i < 8) (b0 b1 b2 b3 b4 b5 b6 b7 : Bool) : byteOf b0 b1 b2 b3 b4 b5 b6 b7 ||| 2 ^ i = byteOf (b0 || i == 0) (b1 || i == 1) (b2 || i == 2) (b3 || i == 3) (b4 || i == 4) (b5 || i == 5) (b6 || i == 6) (b7 || i == 7) := by
  revert b0 b1 b2 b3 b4 b5 b6 b7
  have : ∀ i, i < 8 → ∀ b0 b1 b2 b3 b4 b5 b6 b7 : Bool, byteOf b0 b1 b2 b3 b4 b5 b6 b7 ||| 2 ^ i = byteOf (b0 || i == 0) (b1 || i == 1) (b2 || i == 2) (b3 || i == 3) (b4 || i == 4) (b5 || i == 5) (b6 || i == 6) (b7 || i == 7) := by decide +kernel
  exact this i hi
theorem byte8_put (f : Nat → Bool) (p : Nat) : byte8 f (p / 8) ||| 2 ^ (p % 8) = byte8 (putB f p) (p / 8) := by
  have e : ∀ i, i < 8 → (8 * (p / 8) + i == p) = (p % 8 == i) := fun i hi => by
    rw [Bool.eq_iff_iff]; simp; omega
  have e0 := e 0 (by omega)
  simp only [Nat.add_zero] at e0
  simp only [byte8, putB, e0, e 1 (by omega), e 2 (by omega), e 3 (by omega), e 4 (by omega), e 5 (by omega), e 6 (by omega), e 7 (by omega)]
  exact orOf (p % 8) (Nat.mod_lt _ (by omega)) ..
/-- A bit of a number. -/
def bitT (x i : Nat) : Bool := x / 2 ^ i % 2 == 1
theorem bitOf (i : Nat) (hi : i < 8) (b0 b1 b2 b3 b4 b5 b6 b7 : Bool) : bitT (byteOf b0 b1 b2 b3 b4 b5 b6 b7) i = [b0, b1, b2, b3, b4, b5, b6, b7].getD i false := by
  revert b0 b1 b2 b3 b4 b5 b6 b7
  have : ∀ i, i < 8 → ∀ b0 b1 b2 b3 b4 b5 b6 b7 : Bool, bitT (byteOf b0 b1 b2 b3 b4 b5 b6 b7) i = [b0, b1, b2, b3, b4, b5, b6, b7].getD i false := by decide +kernel
  exact this i hi
theorem byte8_bit (f : Nat → Bool) (p : Nat) : bitT (byte8 f (p / 8)) (p % 8) = f p := by
  rw [byte8, bitOf _ (Nat.mod_lt _ (by omega))]
  have hp : p = 8 * (p / 8) + p % 8 := by omega
  have h8 := Nat.mod_lt p (show 0 < 8 by omega)
  generalize p % 8 = i at *
  generalize p / 8 = j at *
  subst hp
  match i, h8 with
  | 0, _ => rfl
  | 1, _ => rfl
  | 2, _ => rfl
  | 3, _ => rfl
  | 4, _ => rfl
  | 5, _ => rfl
  | 6, _ => rfl
  | 7, _ => rfl
theorem and_cons (b c : Bool) (x y : Nat) : (b.toNat + 2 * x) &&& (c.toNat + 2 * y) = (b && c).toNat + 2 * (x &&& y) := by
  have hb := Bool.toNat_le b
  have hc := Bool.toNat_le c
  have h1 : (b.toNat + 2 * x) / 2 = x := by omega
  have h2 : (c.toNat + 2 * y) / 2 = y := by omega
  have h3 : (b.toNat + 2 * x) % 2 = b.toNat := by omega
  have h4 : (c.toNat + 2 * y) % 2 = c.toNat := by omega
  have hd : ((b.toNat + 2 * x) &&& (c.toNat + 2 * y)) / 2 = x &&& y := by rw [Nat.and_div_two, h1, h2]
  have hm : ((b.toNat + 2 * x) &&& (c.toNat + 2 * y)) % 2 = (b && c).toNat := by
    have := @Nat.and_mod_two_pow (b.toNat + 2 * x) (c.toNat + 2 * y) 1
    rw [Nat.pow_one, h3, h4] at this
    rw [this]
    cases b <;> cases c <;> rfl
  omega
theorem byteOf_in (b0 b1 b2 b3 b4 b5 b6 b7 : Bool) : byteOf b0 b1 b2 b3 b4 b5 b6 b7 = b0.toNat + 2 * (b1.toNat + 2 * (b2.toNat + 2 * (b3.toNat + 2 * (b4.toNat + 2 * (b5.toNat + 2 * (b6.toNat + 2 * (b7.toNat + 2 * 0))))))) := by
  unfold byteOf; omega
theorem byteOf_sub (b0 b1 b2 b3 b4 b5 b6 b7 c0 c1 c2 c3 c4 c5 c6 c7 : Bool) (h0 : b0 → c0) (h1 : b1 → c1) (h2 : b2 → c2) (h3 : b3 → c3) (h4 : b4 → c4) (h5 : b5 → c5) (h6 : b6 → c6) (h7 : b7 → c7) : byteOf b0 b1 b2 b3 b4 b5 b6 b7 &&& byteOf c0 c1 c2 c3 c4 c5 c6 c7 = byteOf b0 b1 b2 b3 b4 b5 b6 b7 := by
  have e : ∀ b c : Bool, (b → c) → (b && c) = b := by decide
  simp only [byteOf_in, and_cons, e _ _ h0, e _ _ h1, e _ _ h2, e _ _ h3, e _ _ h4, e _ _ h5, e _ _ h6, e _ _ h7, Nat.and_self]
theorem byte8_sub {f g : Nat → Bool} (h : ∀ q, f q = true → g q = true) (j : Nat) : byte8 f j &&& byte8 g j = byte8 f j :=
  byteOf_sub _ _ _ _ _ _ _ _ _ _ _ _ _ _ _ _ (h _) (h _) (h _) (h _) (h _) (h _) (h _) (h _)

/-- The bytes of bits. -/
def bitsL (f : Nat → Bool) (n : Nat) : List Nat := (List.range n).map (byte8 f)
theorem bitsL_length (f : Nat → Bool) (n : Nat) : (bitsL f n).length = n := by simp [bitsL]
theorem bitsL_get (f : Nat → Bool) (n j : Nat) (h : j < n) : (bitsL f n)[j]? = some (byte8 f j) := by simp [bitsL, h]
theorem bitsL_put (f : Nat → Bool) (n p : Nat) : (bitsL f n).set (p / 8) (byte8 (putB f p) (p / 8)) = bitsL (putB f p) n := by
  apply List.ext_getElem?
  intro j
  by_cases hj : j < n
  · rw [List.getElem?_set, bitsL_get _ _ _ hj, bitsL_get _ _ _ hj, bitsL_length]
    split
    · rename_i h; subst h; simp [hj]
    · rename_i h; rw [byte8_other f p j h]
  · rw [List.getElem?_eq_none (by simp [bitsL]; omega), List.getElem?_eq_none (by simp [bitsL]; omega)]
theorem bitsL_none (n : Nat) : bitsL (fun _ => false) n = List.replicate n 0 := by
  apply List.ext_getElem?
  intro j
  by_cases hj : j < n
  · rw [bitsL_get _ _ _ hj, List.getElem?_replicate, if_pos hj]; rfl
  · rw [List.getElem?_eq_none (by simp [bitsL]; omega), List.getElem?_eq_none (by simp; omega)]
theorem bitsL_congr {f g : Nat → Bool} {n : Nat} (h : ∀ q, q < 8 * n → f q = g q) : bitsL f n = bitsL g n := by
  apply List.ext_getElem?
  intro j
  by_cases hj : j < n
  · rw [bitsL_get _ _ _ hj, bitsL_get _ _ _ hj, byte8_congr fun i hi => h _ (by omega)]
  · rw [List.getElem?_eq_none (by simp [bitsL]; omega), List.getElem?_eq_none (by simp [bitsL]; omega)]
def bitsB (f : Nat → Bool) (n : Nat) : ByteArray := ⟨((bitsL f n).map UInt8.ofNat).toArray⟩
theorem bitsB_size (f : Nat → Bool) (n : Nat) : (bitsB f n).size = n := by simp [bitsB, ByteArray.size, bitsL_length]

/-- The bits that ids set. -/
def setB (ids : List ByteArray) (m : Nat) : Nat → Bool := fun q => ids.any fun id => (placesB id m).contains q
def cntB (ids : List ByteArray) : Nat := (ids.filter fun id => id.size == 32).length
def makeB (ids : List ByteArray) : ByteArray := bitsB (setB ids (sizeB (cntB ids))) (sizeB (cntB ids) / 8)
def hasB (b id : ByteArray) : Bool := placedB id (8 * b.size : Nat) && (placesB id (8 * b.size : Nat)).all fun p => bitT (b.data.toList.getD (p / 8) 0).toNat (p % 8)
end Go.Pal
