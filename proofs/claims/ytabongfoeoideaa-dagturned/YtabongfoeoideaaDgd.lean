/-
  Layer 12: slices.BinarySearch, slices.Insert at a rising row that may begin anywhere in its block.
-/
import Derived.Test.YtabongfoeoideaaQr0
import Derived.Test.YtabongfoeoideaaRs0
import Derived.Test.YtabongfoeoideaaDgL
import Derived.Test.YtabongfoeoideaaDvM
namespace Go.Proofs.Ytabongfoeoideaa
open Go.RowKit Go.Pal Go.Pal.Dk Go.Shelf
set_option linter.unusedVariables false

theorem less_iff (a b : ByteArray) : Op.bytesLess a.toList b.toList = ltBb a b := by
  rw [bytesLess_eq, ByteArray.toList_eq, ByteArray.toList_eq]; rfl
theorem bs_call {w : World} {base : Nat} {v : Value} {l : List ByteArray} (hq : QR w 9 base v l) (hl : l.length ≤ 1000000) (hr : Rising l) (x : ByteArray) :
    Calls Try.prog 42 #[v, .string x] w fun e w' => ∃ fd, e = .returned (.tuple #[.int .i64 (placeR x l : Nat), .bool fd]) ∧ ∃ q, w' = w.drewN q := by
  rcases hq with ⟨rfl, rfl⟩ | ⟨g, off, cap, cur, rfl, hb, hh, h2, h3, h4, h5⟩
  · refine (Any2.slices_BinarySearch_string_empty dgFind none 0 x w).mono ?_
    rintro e w' ⟨rfl, rfl⟩
    exact ⟨false, rfl, 0, rfl⟩
  · refine (Any2.slices_BinarySearch_string dgFind g off l.length cap (fun t => if h : t < l.length then l[t] else x) x w (by omega) (fun j hj => ?_)).mono ?_
    · simp only [hj, dite_true]
      have := h5 j hj
      simp [World.cell?, hh, this, List.getD_eq_getElem?_getD, List.getElem?_eq_getElem hj]
    · rintro e w' ⟨rfl, hw⟩
      have hk : Lib.bsGo (fun t => Op.bytesLess ((if h : t < l.length then l[t] else x)).toList x.toList) l.length 0 l.length = placeR x l := by
        refine Lib.bsGo_spec _ (placeR x l) (fun t ht => ?_) (fun t ht => ?_) _ _ _ (by omega) (Nat.zero_le _) ?_
        · have hlt : t < l.length := Nat.lt_of_lt_of_le ht (placeR_le x l)
          simp only [hlt, dite_true]
          rw [less_iff]; exact ltBb_iff.2 (placeR_lo x l t hlt ht)
        · by_cases hlt : t < l.length
          · simp only [hlt, dite_true]
            rw [less_iff]
            have hp : placeR x l < l.length := Nat.lt_of_le_of_lt ht hlt
            have h0 := placeR_at x l hp
            cases hb : ltBb l[t] x with
            | false => rfl
            | true =>
              refine absurd ?_ h0
              by_cases e : placeR x l = t
              · have := ltBb_iff.1 hb
                simpa [e] using this
              · exact ltB_trans (List.pairwise_iff_getElem.1 hr _ _ hp hlt (by omega)) (ltBb_iff.1 hb)
          · simp only [hlt, dite_false]
            rw [less_iff]
            cases hb : ltBb x x with
            | false => rfl
            | true => exact absurd (ltBb_iff.1 hb) (ltB_irrefl x)
        · exact placeR_le x l
      rw [hk]
      exact ⟨_, rfl, hw⟩
end Go.Proofs.Ytabongfoeoideaa
