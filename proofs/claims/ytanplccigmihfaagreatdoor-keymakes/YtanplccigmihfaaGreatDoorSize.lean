/-
  Contract of the law's own size of texts.
-/
import Derived.Test.YtanplccigmihfaaGreatDoorIn2
namespace Go.Proofs.YtanplccigmihfaaGreatDoor
open Go.RowKit Go.Pal

def totM (ps : List ByteArray) : Nat := (ps.map fun p => min p.size 2000 + 4).sum
theorem totM_take (ps : List ByteArray) (k : Nat) (h : k < ps.length) : totM (ps.take (k + 1)) = totM (ps.take k) + (min (ps.getD k ByteArray.empty).size 2000 + 4) := by
  have e : ps.getD k ByteArray.empty = ps[k] := by simp [h]
  rw [e, List.take_succ_eq_append_getElem h, totM, List.map_append, List.sum_append]
  simp [totM]
theorem totM_small : ∀ (ps : List ByteArray), totM ps ≤ 2000 → totL ps = totM ps ∧ ps.length ≤ totM ps
  | [], _ => ⟨rfl, Nat.zero_le _⟩
  | p :: ps, h => by
    have e1 : totM (p :: ps) = (min p.size 2000 + 4) + totM ps := by simp [totM]
    have e2 : totL (p :: ps) = (4 + p.size) + totL ps := by simp [totL]
    obtain ⟨h1, h2⟩ := totM_small ps (by omega)
    rw [e1] at h ⊢
    rw [e2, h1, List.length_cons]
    constructor <;> omega


end Go.Proofs.YtanplccigmihfaaGreatDoor
