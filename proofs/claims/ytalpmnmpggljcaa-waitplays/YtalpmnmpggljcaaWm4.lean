/-
  Come, in the law's own model.
-/
import Derived.Test.YtalpmnmpggljcaaWm3
namespace Go.Pal
open Go.RowKit Go.Pal.Dk
theorem leftW_append (s : ByteArray) (a b : List Wt) : leftW s (a ++ b) = leftW s a ++ leftW s b := by unfold leftW; rw [List.map_append, List.filter_append]
theorem stayW_append (s : ByteArray) (a b : List Wt) : stayW s (a ++ b) = stayW s a ++ stayW s b := by unfold stayW; rw [List.map_append, List.filter_append]
theorem take_step (ms : List Mo) (j : Nat) (hj : j < ms.length) : (wsOf ms).take (j + 1) = (wsOf ms).take j ++ [ms[j].x] := by
  rw [List.take_succ_eq_append_getElem (by rw [wsOf_length]; exact hj), wsOf_get ms j hj]
theorem stays_iff (s : ByteArray) (x : Wt) : stays (x.came s) = decide (0 < (strike x.miss s).length) := by
  unfold stays Wt.came
  simp only
  cases h : strike x.miss s <;> simp
/-- The next that leaves stands in what Come told. -/
theorem left_at (s : ByteArray) (ms : List Mo) (j : Nat) (hj : j < ms.length) (h : stays (ms[j].x.came s) = false) :
    ∃ hn : (leftW s ((wsOf ms).take j)).length < (leftW s (wsOf ms)).length, (leftW s (wsOf ms))[(leftW s ((wsOf ms).take j)).length] = ms[j].x.came s := by
  have e : wsOf ms = (wsOf ms).take (j + 1) ++ (wsOf ms).drop (j + 1) := (List.take_append_drop _ _).symm
  have e2 : leftW s (wsOf ms) = (leftW s ((wsOf ms).take j) ++ [ms[j].x.came s]) ++ leftW s ((wsOf ms).drop (j + 1)) := by
    conv => lhs; rw [e]
    rw [leftW_append, take_step ms j hj, leftW_snoc, h]
    rfl
  have hn : (leftW s ((wsOf ms).take j)).length < (leftW s (wsOf ms)).length := by rw [e2]; simp
  refine ⟨hn, ?_⟩
  have : (leftW s (wsOf ms))[(leftW s ((wsOf ms).take j)).length]? = some (ms[j].x.came s) := by
    rw [e2, List.append_assoc, List.getElem?_append_right (Nat.le_refl _)]; simp
  rw [List.getElem?_eq_getElem hn] at this
  exact Option.some.inj this
end Go.Pal
namespace Go.Proofs.Ytalpmnmpggljcaa
open Go.RowKit Go.Pal Go.Pal.Dk
set_option linter.unusedVariables false
theorem ModAt.weak {w : World} {b b' : Nat} {v : Value} {ms : List Mo} (h : ModAt w b v ms) (hb : b' ≤ b) : ModAt w b' v ms := ⟨rowS_weak h.row hb, fun p hp => rowS_weak (h.each p hp) hb⟩
theorem rowG_cells {w : World} {base g n cap : Nat} {ws : List Wt} (h : w.ownsRow base 70 2 (.slice (some ⟨g, 0, none⟩) n cap) n (cellsG ws)) (k : Nat) (hk : k < ws.length) :
    w.cell? ⟨g, k * 2, none⟩ = some (.string ws[k].id) ∧ w.cell? ⟨g, k * 2 + 1, none⟩ = some (.string ws[k].text) := by
  have hl := h.1
  rw [cellsG_length] at hl
  obtain ⟨h1, h2⟩ := cellsG_get ws k hk
  exact ⟨by rw [(ownS_cell h (k * 2) (by omega)).1]; exact h1, by rw [(ownS_cell h (k * 2 + 1) (by omega)).1]; exact h2⟩
end Go.Proofs.Ytalpmnmpggljcaa
