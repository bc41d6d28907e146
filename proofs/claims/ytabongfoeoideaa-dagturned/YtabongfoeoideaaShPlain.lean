/-
  Plain mathematics for layer 2: words of 32 bits as numbers. No program in sight.
-/
import Derived.WalkKit
namespace Go.Pal

/-- A word of 32 bits as the number that a cell holds. -/
def u (x : UInt32) : Int := x.toNat
theorem u_nonneg (x : UInt32) : 0 ≤ u x := by unfold u; omega
theorem u_lt (x : UInt32) : u x < 4294967296 := by
  have := x.toNat_lt
  unfold u; omega
theorem u_le (x : UInt32) : u x ≤ 4294967295 := by have := u_lt x; omega
theorem u_toNat (x : UInt32) : (u x).toNat = x.toNat := by unfold u; simp
theorem u_inj {x y : UInt32} (h : u x = u y) : x = y := by
  apply UInt32.toNat.inj
  unfold u at h; omega
theorem u_ofNat (n : Nat) (h : n < 4294967296) : u (UInt32.ofNat n) = n := by
  unfold u
  rw [UInt32.toNat_ofNat_of_lt' h]
theorem u_eq {x : UInt32} {n : Int} (h : (x.toNat : Int) = n) : u x = n := h

theorem u_add (x y : UInt32) : (u x + u y) % 4294967296 = u (x + y) := by
  unfold u; rw [UInt32.toNat_add]; omega
theorem u_and (x y : UInt32) : bits .and .u32 (u x) (u y) = u (x &&& y) := by
  rw [u32_and _ _ (u_nonneg x) (u_lt x) (u_nonneg y) (u_lt y), u_toNat, u_toNat]
  unfold u; rw [UInt32.toNat_and]
theorem u_or (x y : UInt32) : bits .or .u32 (u x) (u y) = u (x ||| y) := by
  rw [u32_or _ _ (u_nonneg x) (u_lt x) (u_nonneg y) (u_lt y), u_toNat, u_toNat]
  unfold u; rw [UInt32.toNat_or]
theorem u_xor (x y : UInt32) : bits .xor .u32 (u x) (u y) = u (x ^^^ y) := by
  rw [u32_xor _ _ (u_nonneg x) (u_lt x) (u_nonneg y) (u_lt y), u_toNat, u_toNat]
  unfold u; rw [UInt32.toNat_xor]

/-- A word turned right, by numbers. -/
def rotr (n : Nat) (x : UInt32) : UInt32 := UInt32.ofNat ((x.toNat / 2 ^ n) ||| (x.toNat * 2 ^ (32 - n) % 4294967296))
/-- A word pushed right, by numbers. -/
def shr (n : Nat) (x : UInt32) : UInt32 := UInt32.ofNat (x.toNat / 2 ^ n)

theorem u_shr (n : Nat) (x : UInt32) : u (shr n x) = ((x.toNat / 2 ^ n : Nat) : Int) := by
  have := x.toNat_lt
  have h : x.toNat / 2 ^ n ≤ x.toNat := Nat.div_le_self _ _
  rw [shr, u_ofNat _ (by omega)]

theorem u_rotr (n : Nat) (x : UInt32) : u (rotr n x) = (((x.toNat / 2 ^ n) ||| (x.toNat * 2 ^ (32 - n) % 4294967296) : Nat) : Int) := by
  have := x.toNat_lt
  have h : x.toNat / 2 ^ n ≤ x.toNat := Nat.div_le_self _ _
  rw [rotr, u_ofNat]
  exact Nat.or_lt_two_pow (n := 32) (by omega) (by omega)

theorem rotr2_right (x : UInt32) : bits .or .u32 (u x / 4) (u x * 1073741824 % 4294967296) = u (rotr 2 x) := by
  have := x.toNat_lt
  have e1 : u x / 4 = ((x.toNat / 4 : Nat) : Int) := by unfold u; omega
  have e2 : u x * 1073741824 % 4294967296 = ((x.toNat * 1073741824 % 4294967296 : Nat) : Int) := by unfold u; omega
  rw [e1, e2, u32_or_nat _ _ (by omega) (by omega), u_rotr]
theorem rotr2_left (x : UInt32) : bits .or .u32 (u x * 1073741824 % 4294967296) (u x / 4) = u (rotr 2 x) := by
  have := x.toNat_lt
  have e1 : u x / 4 = ((x.toNat / 4 : Nat) : Int) := by unfold u; omega
  have e2 : u x * 1073741824 % 4294967296 = ((x.toNat * 1073741824 % 4294967296 : Nat) : Int) := by unfold u; omega
  rw [e1, e2, u32_or_nat _ _ (by omega) (by omega), u_rotr, Nat.or_comm]

theorem rotr13_right (x : UInt32) : bits .or .u32 (u x / 8192) (u x * 524288 % 4294967296) = u (rotr 13 x) := by
  have := x.toNat_lt
  have e1 : u x / 8192 = ((x.toNat / 8192 : Nat) : Int) := by unfold u; omega
  have e2 : u x * 524288 % 4294967296 = ((x.toNat * 524288 % 4294967296 : Nat) : Int) := by unfold u; omega
  rw [e1, e2, u32_or_nat _ _ (by omega) (by omega), u_rotr]
theorem rotr13_left (x : UInt32) : bits .or .u32 (u x * 524288 % 4294967296) (u x / 8192) = u (rotr 13 x) := by
  have := x.toNat_lt
  have e1 : u x / 8192 = ((x.toNat / 8192 : Nat) : Int) := by unfold u; omega
  have e2 : u x * 524288 % 4294967296 = ((x.toNat * 524288 % 4294967296 : Nat) : Int) := by unfold u; omega
  rw [e1, e2, u32_or_nat _ _ (by omega) (by omega), u_rotr, Nat.or_comm]

theorem rotr22_right (x : UInt32) : bits .or .u32 (u x / 4194304) (u x * 1024 % 4294967296) = u (rotr 22 x) := by
  have := x.toNat_lt
  have e1 : u x / 4194304 = ((x.toNat / 4194304 : Nat) : Int) := by unfold u; omega
  have e2 : u x * 1024 % 4294967296 = ((x.toNat * 1024 % 4294967296 : Nat) : Int) := by unfold u; omega
  rw [e1, e2, u32_or_nat _ _ (by omega) (by omega), u_rotr]
theorem rotr22_left (x : UInt32) : bits .or .u32 (u x * 1024 % 4294967296) (u x / 4194304) = u (rotr 22 x) := by
  have := x.toNat_lt
  have e1 : u x / 4194304 = ((x.toNat / 4194304 : Nat) : Int) := by unfold u; omega
  have e2 : u x * 1024 % 4294967296 = ((x.toNat * 1024 % 4294967296 : Nat) : Int) := by unfold u; omega
  rw [e1, e2, u32_or_nat _ _ (by omega) (by omega), u_rotr, Nat.or_comm]

theorem rotr6_right (x : UInt32) : bits .or .u32 (u x / 64) (u x * 67108864 % 4294967296) = u (rotr 6 x) := by
  have := x.toNat_lt
  have e1 : u x / 64 = ((x.toNat / 64 : Nat) : Int) := by unfold u; omega
  have e2 : u x * 67108864 % 4294967296 = ((x.toNat * 67108864 % 4294967296 : Nat) : Int) := by unfold u; omega
  rw [e1, e2, u32_or_nat _ _ (by omega) (by omega), u_rotr]
theorem rotr6_left (x : UInt32) : bits .or .u32 (u x * 67108864 % 4294967296) (u x / 64) = u (rotr 6 x) := by
  have := x.toNat_lt
  have e1 : u x / 64 = ((x.toNat / 64 : Nat) : Int) := by unfold u; omega
  have e2 : u x * 67108864 % 4294967296 = ((x.toNat * 67108864 % 4294967296 : Nat) : Int) := by unfold u; omega
  rw [e1, e2, u32_or_nat _ _ (by omega) (by omega), u_rotr, Nat.or_comm]

theorem rotr11_right (x : UInt32) : bits .or .u32 (u x / 2048) (u x * 2097152 % 4294967296) = u (rotr 11 x) := by
  have := x.toNat_lt
  have e1 : u x / 2048 = ((x.toNat / 2048 : Nat) : Int) := by unfold u; omega
  have e2 : u x * 2097152 % 4294967296 = ((x.toNat * 2097152 % 4294967296 : Nat) : Int) := by unfold u; omega
  rw [e1, e2, u32_or_nat _ _ (by omega) (by omega), u_rotr]
theorem rotr11_left (x : UInt32) : bits .or .u32 (u x * 2097152 % 4294967296) (u x / 2048) = u (rotr 11 x) := by
  have := x.toNat_lt
  have e1 : u x / 2048 = ((x.toNat / 2048 : Nat) : Int) := by unfold u; omega
  have e2 : u x * 2097152 % 4294967296 = ((x.toNat * 2097152 % 4294967296 : Nat) : Int) := by unfold u; omega
  rw [e1, e2, u32_or_nat _ _ (by omega) (by omega), u_rotr, Nat.or_comm]

theorem rotr25_right (x : UInt32) : bits .or .u32 (u x / 33554432) (u x * 128 % 4294967296) = u (rotr 25 x) := by
  have := x.toNat_lt
  have e1 : u x / 33554432 = ((x.toNat / 33554432 : Nat) : Int) := by unfold u; omega
  have e2 : u x * 128 % 4294967296 = ((x.toNat * 128 % 4294967296 : Nat) : Int) := by unfold u; omega
  rw [e1, e2, u32_or_nat _ _ (by omega) (by omega), u_rotr]
theorem rotr25_left (x : UInt32) : bits .or .u32 (u x * 128 % 4294967296) (u x / 33554432) = u (rotr 25 x) := by
  have := x.toNat_lt
  have e1 : u x / 33554432 = ((x.toNat / 33554432 : Nat) : Int) := by unfold u; omega
  have e2 : u x * 128 % 4294967296 = ((x.toNat * 128 % 4294967296 : Nat) : Int) := by unfold u; omega
  rw [e1, e2, u32_or_nat _ _ (by omega) (by omega), u_rotr, Nat.or_comm]

theorem rotr7_right (x : UInt32) : bits .or .u32 (u x / 128) (u x * 33554432 % 4294967296) = u (rotr 7 x) := by
  have := x.toNat_lt
  have e1 : u x / 128 = ((x.toNat / 128 : Nat) : Int) := by unfold u; omega
  have e2 : u x * 33554432 % 4294967296 = ((x.toNat * 33554432 % 4294967296 : Nat) : Int) := by unfold u; omega
  rw [e1, e2, u32_or_nat _ _ (by omega) (by omega), u_rotr]
theorem rotr7_left (x : UInt32) : bits .or .u32 (u x * 33554432 % 4294967296) (u x / 128) = u (rotr 7 x) := by
  have := x.toNat_lt
  have e1 : u x / 128 = ((x.toNat / 128 : Nat) : Int) := by unfold u; omega
  have e2 : u x * 33554432 % 4294967296 = ((x.toNat * 33554432 % 4294967296 : Nat) : Int) := by unfold u; omega
  rw [e1, e2, u32_or_nat _ _ (by omega) (by omega), u_rotr, Nat.or_comm]

theorem rotr18_right (x : UInt32) : bits .or .u32 (u x / 262144) (u x * 16384 % 4294967296) = u (rotr 18 x) := by
  have := x.toNat_lt
  have e1 : u x / 262144 = ((x.toNat / 262144 : Nat) : Int) := by unfold u; omega
  have e2 : u x * 16384 % 4294967296 = ((x.toNat * 16384 % 4294967296 : Nat) : Int) := by unfold u; omega
  rw [e1, e2, u32_or_nat _ _ (by omega) (by omega), u_rotr]
theorem rotr18_left (x : UInt32) : bits .or .u32 (u x * 16384 % 4294967296) (u x / 262144) = u (rotr 18 x) := by
  have := x.toNat_lt
  have e1 : u x / 262144 = ((x.toNat / 262144 : Nat) : Int) := by unfold u; omega
  have e2 : u x * 16384 % 4294967296 = ((x.toNat * 16384 % 4294967296 : Nat) : Int) := by unfold u; omega
  rw [e1, e2, u32_or_nat _ _ (by omega) (by omega), u_rotr, Nat.or_comm]

theorem rotr17_right (x : UInt32) : bits .or .u32 (u x / 131072) (u x * 32768 % 4294967296) = u (rotr 17 x) := by
  have := x.toNat_lt
  have e1 : u x / 131072 = ((x.toNat / 131072 : Nat) : Int) := by unfold u; omega
  have e2 : u x * 32768 % 4294967296 = ((x.toNat * 32768 % 4294967296 : Nat) : Int) := by unfold u; omega
  rw [e1, e2, u32_or_nat _ _ (by omega) (by omega), u_rotr]
theorem rotr17_left (x : UInt32) : bits .or .u32 (u x * 32768 % 4294967296) (u x / 131072) = u (rotr 17 x) := by
  have := x.toNat_lt
  have e1 : u x / 131072 = ((x.toNat / 131072 : Nat) : Int) := by unfold u; omega
  have e2 : u x * 32768 % 4294967296 = ((x.toNat * 32768 % 4294967296 : Nat) : Int) := by unfold u; omega
  rw [e1, e2, u32_or_nat _ _ (by omega) (by omega), u_rotr, Nat.or_comm]

theorem rotr19_right (x : UInt32) : bits .or .u32 (u x / 524288) (u x * 8192 % 4294967296) = u (rotr 19 x) := by
  have := x.toNat_lt
  have e1 : u x / 524288 = ((x.toNat / 524288 : Nat) : Int) := by unfold u; omega
  have e2 : u x * 8192 % 4294967296 = ((x.toNat * 8192 % 4294967296 : Nat) : Int) := by unfold u; omega
  rw [e1, e2, u32_or_nat _ _ (by omega) (by omega), u_rotr]
theorem rotr19_left (x : UInt32) : bits .or .u32 (u x * 8192 % 4294967296) (u x / 524288) = u (rotr 19 x) := by
  have := x.toNat_lt
  have e1 : u x / 524288 = ((x.toNat / 524288 : Nat) : Int) := by unfold u; omega
  have e2 : u x * 8192 % 4294967296 = ((x.toNat * 8192 % 4294967296 : Nat) : Int) := by unfold u; omega
  rw [e1, e2, u32_or_nat _ _ (by omega) (by omega), u_rotr, Nat.or_comm]

theorem shr3 (x : UInt32) : u x / 8 = u (shr 3 x) := by rw [u_shr]; unfold u; omega

theorem shr10 (x : UInt32) : u x / 1024 = u (shr 10 x) := by rw [u_shr]; unfold u; omega

def byteV (b : UInt8) : Value := .int .u8 b.toNat
def wordV (x : UInt32) : Value := .int .u32 (u x)
/-- Four bytes as a word, the highest first. -/
def word4 (a b c d : UInt8) : UInt32 := UInt32.ofNat (a.toNat * 16777216 + b.toNat * 65536 + c.toNat * 256 + d.toNat)
theorem u_word4 (a b c d : UInt8) : u (word4 a b c d) = ((a.toNat * 16777216 + b.toNat * 65536 + c.toNat * 256 + d.toNat : Nat) : Int) := by
  have ha := a.toNat_lt
  have hb := b.toNat_lt
  have hc := c.toNat_lt
  have hd := d.toNat_lt
  exact u_ofNat _ (by omega)
theorem wraps_u32 (n : Int) (h0 : 0 ≤ n) (h1 : n < 2 ^ 32) : IntKind.u32.wrap n = n := by rw [IntKind.wrap_u32]; omega
/-- Four bytes, or'ed together. -/
theorem word4_or (a b c d : UInt8) : bits BinOp.or IntKind.u32 (bits BinOp.or IntKind.u32 (bits BinOp.or IntKind.u32 ((a.toNat : Int) % 4294967296 * 16777216 % 4294967296) ((b.toNat : Int) % 4294967296 * 65536 % 4294967296)) ((c.toNat : Int) % 4294967296 * 256 % 4294967296)) ((d.toNat : Int) % 4294967296) = u (word4 a b c d) := by
  have ha := a.toNat_lt
  have hb := b.toNat_lt
  have hc := c.toNat_lt
  have hd := d.toNat_lt
  rw [u_word4]
  rw [bits_join .u32 32 (by decide) wraps_u32 24 ((a.toNat : Int) % 4294967296 * 16777216 % 4294967296) ((b.toNat : Int) % 4294967296 * 65536 % 4294967296) (by omega) (by omega) (by omega) (by omega) (by omega) (by omega)]
  rw [bits_join .u32 32 (by decide) wraps_u32 16 _ ((c.toNat : Int) % 4294967296 * 256 % 4294967296) (by omega) (by omega) (by omega) (by omega) (by omega) (by omega)]
  rw [bits_join .u32 32 (by decide) wraps_u32 8 _ ((d.toNat : Int) % 4294967296) (by omega) (by omega) (by omega) (by omega) (by omega) (by omega)]
  omega

/-- The sixteen words of a block. -/
def words16 (bs : List UInt8) : List UInt32 := (List.range 16).map fun i => word4 (bs.getD (4 * i) 0) (bs.getD (4 * i + 1) 0) (bs.getD (4 * i + 2) 0) (bs.getD (4 * i + 3) 0)
theorem words16_length (bs : List UInt8) : (words16 bs).length = 16 := by simp [words16]
theorem words16_get (bs : List UInt8) (k : Nat) (h : k < 16) : (words16 bs)[k]? = some (word4 (bs.getD (4 * k) 0) (bs.getD (4 * k + 1) 0) (bs.getD (4 * k + 2) 0) (bs.getD (4 * k + 3) 0)) := by
  simp [words16, List.getElem?_range h]

def smallL (x : UInt32) : UInt32 := rotr 7 x ^^^ rotr 18 x ^^^ shr 3 x
def smallH (x : UInt32) : UInt32 := rotr 17 x ^^^ rotr 19 x ^^^ shr 10 x
/-- The next word of the schedule. -/
def nextW (l : List UInt32) : UInt32 := l.getD (l.length - 16) 0 + smallL (l.getD (l.length - 15) 0) + l.getD (l.length - 7) 0 + smallH (l.getD (l.length - 2) 0)
def stretch (l : List UInt32) : Nat → List UInt32
  | 0 => l
  | n + 1 => stretch l n ++ [nextW (stretch l n)]
theorem stretch_length (l : List UInt32) : ∀ n, (stretch l n).length = l.length + n
  | 0 => rfl
  | n + 1 => by simp [stretch, stretch_length l n]; omega
/-- The 64 words of a block. -/
def schedW (bs : List UInt8) : List UInt32 := stretch (words16 bs) 48
theorem schedW_length (bs : List UInt8) : (schedW bs).length = 64 := by rw [schedW, stretch_length, words16_length]
theorem stretch_le (l : List UInt32) (n i : Nat) (h : i < l.length + n) : ∀ m, n ≤ m → (stretch l m)[i]? = (stretch l n)[i]? := by
  intro m hm
  induction m with
  | zero => have : n = 0 := by omega
            subst this; rfl
  | succ m ih =>
    rcases Nat.lt_or_ge m n with h1 | h1
    · have : n = m + 1 := by omega
      subst this; rfl
    · rw [stretch, List.getElem?_append_left (by rw [stretch_length]; omega)]
      exact ih h1
theorem stretch_take (l : List UInt32) (n m : Nat) (h : n ≤ m) : (stretch l m).take (l.length + n) = stretch l n := by
  induction m with
  | zero => have : n = 0 := by omega
            subst this; simp [stretch]
  | succ m ih =>
    rcases Nat.lt_or_ge m n with h1 | h1
    · have : n = m + 1 := by omega
      subst this
      rw [List.take_of_length_le (by rw [stretch_length]; omega)]
    · rw [stretch, List.take_append_of_le_length (by rw [stretch_length]; omega)]
      exact ih h1

theorem getD_stretch (l : List UInt32) (n m i : Nat) (h : i < l.length + n) (hm : n ≤ m) : (stretch l m).getD i 0 = (stretch l n).getD i 0 := by
  rw [List.getD_eq_getElem?_getD, List.getD_eq_getElem?_getD, stretch_le l n i h m hm]
theorem schedW_next (bs : List UInt8) (k : Nat) (h1 : 16 ≤ k) (h2 : k < 64) : (schedW bs).getD k 0 =
    (schedW bs).getD (k - 16) 0 + smallL ((schedW bs).getD (k - 15) 0) + (schedW bs).getD (k - 7) 0 + smallH ((schedW bs).getD (k - 2) 0) := by
  have hl := words16_length bs
  have hs : (stretch (words16 bs) (k - 16)).length = k := by rw [stretch_length]; omega
  unfold schedW
  rw [getD_stretch _ (k - 16 + 1) 48 k (by omega) (by omega), getD_stretch _ (k - 16) 48 (k - 16) (by omega) (by omega), getD_stretch _ (k - 16) 48 (k - 15) (by omega) (by omega),
    getD_stretch _ (k - 16) 48 (k - 7) (by omega) (by omega), getD_stretch _ (k - 16) 48 (k - 2) (by omega) (by omega)]
  rw [stretch, List.getD_eq_getElem?_getD, List.getElem?_append_right (by omega), hs]
  simp [nextW, hs]

end Go.Pal
