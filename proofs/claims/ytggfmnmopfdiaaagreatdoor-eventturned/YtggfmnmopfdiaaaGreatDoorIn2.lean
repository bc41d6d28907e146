/-
  Contracts of sha.Tag and of the document's examples of layer 2.
-/
import Derived.Test.YtggfmnmopfdiaaaGreatDoorIn1
import Derived.Test.YtggfmnmopfdiaaaGreatDoorShAbc
namespace Go.Proofs.YtggfmnmopfdiaaaGreatDoor
open Go.RowKit Go.Pal

theorem Tabs.below {w w' : World} (h : Tabs w) (hb : Below w.heap.size w w') : Tabs w' := h.grown (Lib.grownBy_below (World.grownBy.refl w none) hb) (by intro k hk; cases hk)

set_option maxHeartbeats 400000 in
theorem tag_any (w : World) (tag : Int) (a : Option Addr) (cap : Nat) (ss : List ByteArray) (ht : Tabs w) (hss : StrRow w a ss) (htot : totL ss ≤ 2147483647) (hlen : ss.length ≤ 1099511627776) :
    Calls Tryz.prog 48 #[.int .i64 tag, .slice a ss.length cap] w fun e w' => e = .returned (.string (shaB ⟨(inputL tag ss).toArray⟩)) ∧ Below w.heap.size w w' := by
  have hl : (⟨(inputL tag ss).toArray⟩ : ByteArray).size ≤ 281474976710656 := by
    show (inputL tag ss).toArray.size ≤ _
    rw [List.size_toArray, inputL_length]; omega
  have HL := Lib.hid hl
  have HIN := Lib.hid (input_any w tag a cap ss hss htot hlen)
  have HT := Lib.hid ht
  clear hl hss ht htot
  generalize (⟨(inputL tag ss).toArray⟩ : ByteArray) = I at *
  go_enter Tryz.func48, Tryz.ntmps48
  go_wp2_with fail
  refine HIN.out.mono ?_
  rintro e w1 ⟨rfl, b1⟩
  go_wp2_with fail
  refine (sum_any w1 I HL.out (HT.out.below b1)).mono ?_
  rintro e w2 ⟨rfl, b2⟩
  go_wp2
  go_ret
  exact ⟨rfl, b1.trans (b2.mono b1.size)⟩

theorem abcB : shaB ⟨#[97, 98, 99]⟩ = ⟨#[186, 120, 22, 191, 143, 1, 207, 234, 65, 65, 64, 222, 93, 174, 34, 35, 176, 3, 97, 163, 150, 23, 122, 156, 180, 16, 255, 97, 242, 0, 21, 173]⟩ := by
  unfold shaB
  rw [show (⟨#[97, 98, 99]⟩ : ByteArray).data.toList = [97, 98, 99] from rfl, sha_abc]
theorem in7 : inputL 7 [⟨#[97, 98]⟩, ⟨#[]⟩] = [7, 0, 0, 0, 2, 97, 98, 0, 0, 0, 0] := by decide +kernel
theorem strs2 (w : World) (x y : ByteArray) : StrRow (w.alloc (.cells #[.string x, .string y] 9)) (some ⟨w.heap.size, 0, none⟩) [x, y] := by
  refine .inr ⟨w.heap.size, 0, rfl, by simp, fun i hi => ?_⟩
  rw [World.cell?_alloc_mark]
  match i, hi with
  | 0, _ => rfl
  | 1, _ => rfl
theorem strs1 (w : World) (x : ByteArray) : StrRow (w.alloc (.cells #[.string x] 9)) (some ⟨w.heap.size, 0, none⟩) [x] := by
  refine .inr ⟨w.heap.size, 0, rfl, by simp, fun i hi => ?_⟩
  rw [World.cell?_alloc_mark]
  match i, hi with
  | 0, _ => rfl


end Go.Proofs.YtggfmnmopfdiaaaGreatDoor
