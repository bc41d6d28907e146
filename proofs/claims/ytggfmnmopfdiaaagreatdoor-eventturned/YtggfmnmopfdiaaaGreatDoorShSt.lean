/-
  Plain mathematics for layer 2: the state, its rounds, blocks, and the digest of bytes. No program in sight.
-/
import Derived.Test.YtggfmnmopfdiaaaGreatDoorShPlain
import Derived.Test.YtggfmnmopfdiaaaGreatDoorPlain
namespace Go.Pal

/-- The words of the rounds. -/
def Kt : List UInt32 := [1116352408, 1899447441, 3049323471, 3921009573, 961987163, 1508970993, 2453635748, 2870763221, 3624381080, 310598401, 607225278, 1426881987, 1925078388, 2162078206, 2614888103, 3248222580, 3835390401, 4022224774, 264347078, 604807628, 770255983, 1249150122, 1555081692, 1996064986, 2554220882, 2821834349, 2952996808, 3210313671, 3336571891, 3584528711, 113926993, 338241895, 666307205, 773529912, 1294757372, 1396182291, 1695183700, 1986661051, 2177026350, 2456956037, 2730485921, 2820302411, 3259730800, 3345764771, 3516065817, 3600352804, 4094571909, 275423344, 430227734, 506948616, 659060556, 883997877, 958139571, 1322822218, 1537002063, 1747873779, 1955562222, 2024104815, 2227730452, 2361852424, 2428436474, 2756734187, 3204031479, 3329325298]
/-- The words that a digest begins with. -/
def Ht : List UInt32 := [1779033703, 3144134277, 1013904242, 2773480762, 1359893119, 2600822924, 528734635, 1541459225]

structure St where
  (a b c d e f g h : UInt32)

def lowS (x : UInt32) : UInt32 := rotr 2 x ^^^ rotr 13 x ^^^ rotr 22 x
def highS (x : UInt32) : UInt32 := rotr 6 x ^^^ rotr 11 x ^^^ rotr 25 x
def addedS (k w : UInt32) (s : St) : UInt32 := s.h + highS s.e + ((s.e &&& s.f) ^^^ (~~~ s.e &&& s.g)) + k + w
def totalS (k w : UInt32) (s : St) : UInt32 := addedS k w s + lowS s.a + ((s.a &&& s.b) ^^^ (s.a &&& s.c) ^^^ (s.b &&& s.c))
def stepS (k w : UInt32) (s : St) : St := ⟨totalS k w s, s.a, s.b, s.c, s.d + addedS k w s, s.e, s.f, s.g⟩
def roundsS (ws : List UInt32) (s : St) : Nat → St
  | 0 => s
  | n + 1 => stepS (Kt.getD n 0) (ws.getD n 0) (roundsS ws s n)
def addS (s t : St) : St := ⟨s.a + t.a, s.b + t.b, s.c + t.c, s.d + t.d, s.e + t.e, s.f + t.f, s.g + t.g, s.h + t.h⟩
/-- A state with a block mixed in. -/
def mixS (s : St) (bs : List UInt8) : St := addS s (roundsS (schedW bs) s 64)
def St.list (s : St) : List UInt32 := [s.a, s.b, s.c, s.d, s.e, s.f, s.g, s.h]
def St.vals (s : St) : List Value := s.list.map wordV
def H0 : St := ⟨1779033703, 3144134277, 1013904242, 2773480762, 1359893119, 2600822924, 528734635, 1541459225⟩

theorem u_not (x : UInt32) : u (~~~ x) = 4294967295 - u x := by
  unfold u
  rw [UInt32.toNat_not]
  have := x.toNat_lt
  have e : UInt32.size = 4294967296 := rfl
  omega

theorem u_notx (x : UInt32) : bits BinOp.xor IntKind.u32 (if IntKind.u32.signed = true then -1 else IntKind.u32.max) (u x) = u (~~~ x) := by
  have e : (if IntKind.u32.signed = true then (-1 : Int) else IntKind.u32.max) = u 4294967295 := by decide
  have e2 : (4294967295 : UInt32) = -1 := by decide
  rw [e, u_xor, e2, UInt32.neg_one_xor]

theorem addS_vals (s t : St) : (addS s t).vals = [wordV (s.a + t.a), wordV (s.b + t.b), wordV (s.c + t.c), wordV (s.d + t.d), wordV (s.e + t.e), wordV (s.f + t.f), wordV (s.g + t.g), wordV (s.h + t.h)] := rfl
theorem mixS_vals (s : St) (bs : List UInt8) : (mixS s bs).vals = (addS s (roundsS (schedW bs) s 64)).vals := by rw [mixS]

def byteAt (x : UInt32) (k : Nat) : UInt8 := UInt8.ofNat (x.toNat / 2 ^ k)
def word8 (x : UInt32) : List UInt8 := [byteAt x 24, byteAt x 16, byteAt x 8, byteAt x 0]
/-- A state as 32 bytes. -/
def outS (s : St) : List UInt8 := s.list.flatMap word8
theorem outS_length (s : St) : (outS s).length = 32 := rfl
theorem byteAt24 (x : UInt32) : u x / 16777216 = ((byteAt x 24).toNat : Int) := by
  have := x.toNat_lt
  unfold byteAt u; simp; omega
theorem byteAt16 (x : UInt32) : u x / 65536 % 256 = ((byteAt x 16).toNat : Int) := by
  unfold byteAt u; simp
theorem byteAt8 (x : UInt32) : u x / 256 % 256 = ((byteAt x 8).toNat : Int) := by
  unfold byteAt u; simp
theorem byteAt0 (x : UInt32) : u x % 256 = ((byteAt x 0).toNat : Int) := by
  unfold byteAt u; simp

/-- The state behind what no whole block is left of: the bit that ends it, zeros, and the length in bits. -/
def lastS (s : St) (r : List UInt8) (L : Nat) : St :=
  if r.length + 1 ≤ 56 then mixS s (r ++ [128] ++ List.replicate (55 - r.length) 0 ++ beL 8 L)
  else mixS (mixS s (r ++ [128] ++ List.replicate (63 - r.length) 0)) (List.replicate 56 0 ++ beL 8 L)

theorem beL8 (n : Nat) : beL 8 n = [UInt8.ofNat (n / 256 / 256 / 256 / 256 / 256 / 256 / 256), UInt8.ofNat (n / 256 / 256 / 256 / 256 / 256 / 256), UInt8.ofNat (n / 256 / 256 / 256 / 256 / 256), UInt8.ofNat (n / 256 / 256 / 256 / 256), UInt8.ofNat (n / 256 / 256 / 256), UInt8.ofNat (n / 256 / 256), UInt8.ofNat (n / 256), UInt8.ofNat n] := rfl

/-- So many blocks mixed in, one behind the other. -/
def absorb (s : St) (l : List UInt8) : Nat → St
  | 0 => s
  | n + 1 => mixS (absorb s l n) ((l.drop (64 * n)).take 64)
/-- The digest of bytes. -/
def shaL (l : List UInt8) : List UInt8 := outS (lastS (absorb H0 l (l.length / 64)) (l.drop (64 * (l.length / 64))) (8 * l.length))
def shaB (s : ByteArray) : ByteArray := ⟨(shaL s.data.toList).toArray⟩
theorem shaL_length (l : List UInt8) : (shaL l).length = 32 := outS_length _
theorem H0_vals : H0.vals = Ht.map wordV := rfl

end Go.Pal
