/-
  Contracts of sha.Tag and of the document's examples of layer 2.
-/
import Derived.Test.YtanplccigmihfaaDoorIn1
import Derived.Test.YtanplccigmihfaaDoorShAbc
namespace Go.Proofs.YtanplccigmihfaaDoor
open Go.RowKit Go.Pal

theorem Tabs.below {w w' : World} (h : Tabs w) (hb : Below w.heap.size w w') : Tabs w' := h.grown (Lib.grownBy_below (World.grownBy.refl w none) hb) (by intro k hk; cases hk)


theorem abcB : shaB ⟨#[97, 98, 99]⟩ = ⟨#[186, 120, 22, 191, 143, 1, 207, 234, 65, 65, 64, 222, 93, 174, 34, 35, 176, 3, 97, 163, 150, 23, 122, 156, 180, 16, 255, 97, 242, 0, 21, 173]⟩ := by
  unfold shaB
  rw [show (⟨#[97, 98, 99]⟩ : ByteArray).data.toList = [97, 98, 99] from rfl, sha_abc]
theorem in7 : inputL 7 [⟨#[97, 98]⟩, ⟨#[]⟩] = [7, 0, 0, 0, 2, 97, 98, 0, 0, 0, 0] := by decide +kernel
theorem strs2 (w : World) (x y : ByteArray) : StrRow (w.alloc (.cells #[.string x, .string y] 9)) (some ⟨w.heap.size, 0, none⟩) [x, y] := by
  refine .inr ⟨w.heap.size, 0, rfl, by simp, fun i hi => ?_⟩
  rw [World.cell?_alloc_mark]
  match i, hi with
  | 0, _ => rfl
  | 1, _ => rfl
theorem strs1 (w : World) (x : ByteArray) : StrRow (w.alloc (.cells #[.string x] 9)) (some ⟨w.heap.size, 0, none⟩) [x] := by
  refine .inr ⟨w.heap.size, 0, rfl, by simp, fun i hi => ?_⟩
  rw [World.cell?_alloc_mark]
  match i, hi with
  | 0, _ => rfl

set_option maxHeartbeats 400000 in
set_option maxRecDepth 100000 in
theorem awake_any (w : World) (ht : Tabs w) :
    Calls Tryd.prog 6 #[] w fun e w' => e = .returned (.bool true) ∧ Below w.heap.size w w' := by
  have hs := sum_any w ⟨#[97, 98, 99]⟩ (by decide) ht
  rw [abcB] at hs
  have HS := Lib.hid hs
  have HI := Lib.hid (fun W a c h => input_any W 7 a c [⟨#[97, 98]⟩, ⟨#[]⟩] h (by decide) (by decide))
  rw [in7] at HI
  clear hs ht
  go_enter Tryd.func6, Tryd.ntmps6
  go_wp2_with fail
  refine HS.out.mono ?_
  rintro e w1 ⟨rfl, b1⟩
  go_wp2_with fail
  refine (HI.out _ _ _ (strs2 _ _ _)).mono ?_
  rintro e w2 ⟨rfl, b2⟩
  go_wp2
  go_ret
  have c1 := b1.alloc b1.size (.cells #[.string ⟨#[97, 98]⟩, .string ⟨#[]⟩] 9)
  exact ⟨rfl, c1.trans (b2.mono c1.size)⟩

end Go.Proofs.YtanplccigmihfaaDoor
