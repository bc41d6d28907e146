/-
  Contracts of package disk: Names.
-/
import Derived.Test.YtffnkomnldgcaaaGreatDoorDk10
namespace Go.Proofs.YtffnkomnldgcaaaGreatDoor
open Go.RowKit Go.Pal Go.Pal.Dk Go.Maps Go.Sort

theorem own_cell {w : World} {base : Nat} {t : TypeId} {g n cap : Nat} {l : List Value} (h : w.ownsRow base t 1 (.slice (some ⟨g, 0, none⟩) n cap) n l) (k : Nat) (hk : k < n) : w.cell? ⟨g, k, none⟩ = l[k]? ∧ w.frozen? ⟨g, k, none⟩ = false := by
  rcases h.2 with ⟨h1, _⟩ | ⟨g', cap', cur, e, _, hh, _, _, _, ht⟩
  · cases h1
  · cases e
    refine ⟨?_, by simp [World.frozen?, hh]⟩
    have e1 : w.cell? ⟨g, k, none⟩ = cur.toList[k]? := by simp [World.cell?, hh]
    rw [e1, ← ht, List.getElem?_take_of_lt (by omega)]
theorem own_same {w : World} {base : Nat} {t : TypeId} {g n cap : Nat} {l : List Value} (h : w.ownsRow base t 1 (.slice (some ⟨g, 0, none⟩) n cap) n l) {k : Nat} {x : Value} (hx : w.cell? ⟨g, k, none⟩ = some x) : (w.setCell ⟨g, k, none⟩ x).ownsRow base t 1 (.slice (some ⟨g, 0, none⟩) n cap) n l := by
  refine own_kept h (fun b hb => ?_)
  obtain rfl : g = b := by simpa [Value.ownBlock] using hb
  rcases h.2 with ⟨h1, _⟩ | ⟨g', cap', cur, e, _, hh, _⟩
  · cases h1
  · cases e
    have e1 : cur[k]? = some x := by have := hx; simp [World.cell?, hh] at this; exact this
    obtain ⟨hlt, e2⟩ := Array.getElem?_eq_some_iff.1 e1
    have e3 : cur.setIfInBounds k x = cur := by
      apply Array.ext
      · simp
      · intro i h1 h2
        by_cases hi : k = i
        · subst hi; simp [e2]
        · rw [Array.getElem_setIfInBounds]; simp [hi]; exact h2
    simp [World.setCell, Array.getElem?_modify, hh, e3]
theorem namesV_get (l : List Fl) (k : Nat) (h : k < l.length) : (namesV l)[k]? = some (.string l[k].name) := by simp [namesV, h]

set_option maxHeartbeats 400000 in
set_option maxRecDepth 100000 in
theorem rising_nil (w : World) :
    Calls Tryz.prog 27 #[.pointer none] w fun e w' => e = .returned (.slice none 0 0) ∧ w' = w := by
  go_enter Tryz.func27, Tryz.ntmps27
  go_wp2
  go_ret
  exact ⟨rfl, rfl⟩
end Go.Proofs.YtffnkomnldgcaaaGreatDoor
