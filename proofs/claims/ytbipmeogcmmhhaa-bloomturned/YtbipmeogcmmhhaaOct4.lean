/-
  Contracts of the document's own Number (in one, two or four bytes) and of Text, the program's and the document's.
-/
import Derived.Test.YtbipmeogcmmhhaaOct3
namespace Go.Proofs.Ytbipmeogcmmhhaa
open Go.RowKit Go.Pal

theorem conv_one (w : World) (b : Nat) (x : Int) (hb : b = w.heap.size) :
    (convert 81 9 (.slice (some ⟨b, 0, none⟩) 1 1)).run Try.prog (w.alloc (.cells #[.int .u8 x] 5)) = .ok (.string ⟨#[UInt8.ofNat x.toNat]⟩) (w.alloc (.cells #[.int .u8 x] 5)) := by
  subst hb; exact conv_new w [x] 1

theorem cat1 (n : Nat) : (⟨#[UInt8.ofNat (n % 256)]⟩ ++ ⟨#[]⟩ : ByteArray) = be 1 n := by
  rw [be1, ofNat_mod, ByteArray.ext_iff]; simp [ByteArray.data_append]
theorem cat2 (n : Nat) : (⟨#[UInt8.ofNat (n / 256 % 256)]⟩ ++ (⟨#[UInt8.ofNat (n % 256)]⟩ ++ ⟨#[]⟩) : ByteArray) = be 2 n := by
  rw [be2, ofNat_mod, ofNat_mod, ByteArray.ext_iff]; simp [ByteArray.data_append]
theorem cat4 (n : Nat) : (⟨#[UInt8.ofNat (n / 256 / 256 / 256 % 256)]⟩ ++ (⟨#[UInt8.ofNat (n / 256 / 256 % 256)]⟩ ++ (⟨#[UInt8.ofNat (n / 256 % 256)]⟩ ++ (⟨#[UInt8.ofNat (n % 256)]⟩ ++ ⟨#[]⟩))) : ByteArray) = be 4 n := by
  rw [be4, ofNat_mod, ofNat_mod, ofNat_mod, ofNat_mod, ByteArray.ext_iff]; simp [ByteArray.data_append]

end Go.Proofs.Ytbipmeogcmmhhaa
