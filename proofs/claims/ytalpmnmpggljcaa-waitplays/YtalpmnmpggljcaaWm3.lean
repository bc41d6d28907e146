/-
  The law's own model of a room, and the room beside it: one more.
-/
import Derived.Test.YtalpmnmpggljcaaWm2
namespace Go.Proofs.Ytalpmnmpggljcaa
open Go.RowKit Go.Pal Go.Pal.Dk
set_option linter.unusedVariables false

theorem WaitAt.swap {w : World} {base W places : Nat} {v : Value} {ws : List Wt} {id tx : ByteArray} {mb : Nat} {L L' : List ByteArray} (h : WaitAt w base W places v (ws ++ [⟨id, tx, mb, L⟩])) (hm : ∀ s, s ∈ L ↔ s ∈ L') (hn : L'.Nodup) : WaitAt w base W places v (ws ++ [⟨id, tx, mb, L'⟩]) := by
  refine ⟨h.blk, ?_, fun x hx => ?_, by have := h.apart; simpa using this, h.wbase⟩
  · have e : cellsW (ws ++ [⟨id, tx, mb, L'⟩]) = cellsW (ws ++ [⟨id, tx, mb, L⟩]) := by rw [cellsW_append, cellsW_append]; rfl
    have hr := h.row
    rw [List.length_append] at hr
    rw [e, List.length_append]; exact hr
  · rcases List.mem_append.1 hx with h1 | h1
    · exact h.maps x (List.mem_append_left _ h1)
    · obtain rfl := List.mem_singleton.1 h1
      obtain ⟨q1, q2, q3⟩ := h.maps ⟨id, tx, mb, L⟩ (List.mem_append_right _ (List.mem_singleton.2 rfl))
      refine ⟨?_, hn, q3⟩
      have e : L.length = L'.length := nodup_length q2 hn hm
      show MapF _ _ w mb L'.length (setL L')
      have q1' : MapF Try.prog 9 w mb L.length (setL L) := q1
      rw [e] at q1'
      exact q1'.same (fun s => (setL_same hm s).symm)
/-- The model's row takes one more, or is written anew: the room and the model's texts stay. -/
theorem WaitAt.beside {w5 w8 : World} {base W places b n size : Nat} {u v : Value} {ws : List Wt} {l : List Value} (h : WaitAt w5 base W places u ws) (hr : w5.ownsRow b 65 size v n l) (hk : ∀ g, g < w5.heap.size → v.ownBlock ≠ some g → w8.heap[g]? = w5.heap[g]?) : WaitAt w8 base W places u ws := by
  refine h.keep (fun g hg => hk g (h.lt hg).1 (fun e => ?_))
  obtain ⟨_, _, cur, hc⟩ := own_lt hr e
  rcases hg with rfl | hv | ⟨x, hx, rfl⟩
  · have := h.blk
    unfold Blk at this
    rw [hc] at this
    injection this with this
    injection this with _ h3
    exact absurd h3 (by decide)
  · obtain ⟨_, _, cur', hc'⟩ := own_lt h.row hv
    rw [hc] at hc'
    injection hc' with hc'
    injection hc' with _ h3
    exact absurd h3 (by decide)
  · obtain ⟨es, c, hm⟩ := (h.maps x hx).1.obj
    rw [hc] at hm; cases hm
theorem str_beside {w5 w8 : World} {b n size b2 n2 : Nat} {u v : Value} {l l2 : List Value} (h : w5.ownsRow b2 9 1 u n2 l2) (hr : w5.ownsRow b 65 size v n l) (hk : ∀ g, g < w5.heap.size → v.ownBlock ≠ some g → w8.heap[g]? = w5.heap[g]?) : w8.ownsRow b2 9 1 u n2 l2 := by
  refine own_kept h (fun g hg => hk g (own_lt h hg).1 (row_row h hr (by decide) hg))
/-- One more in the model. -/
theorem ModAt.more {w5 w8 : World} {base : Nat} {v v8 : Value} {ms : List Mo} {p : Mo} (h : ModAt w5 base v ms) (hp : w5.ownsRow base 9 1 p.mv p.x.miss.length (p.x.miss.map Value.string)) (hk : ∀ g, g < w5.heap.size → v.ownBlock ≠ some g → w8.heap[g]? = w5.heap[g]?)
    (ho : w8.ownsRow base 65 3 v8 (ms.length + 1) (cellsM ms ++ p.cells)) : ModAt w8 base v8 (ms ++ [p]) := by
  refine ⟨?_, fun q hq => ?_⟩
  · rw [List.length_append, cellsM_append]; exact ho
  · rcases List.mem_append.1 hq with h1 | h1
    · exact str_beside (h.each q h1) h.row hk
    · rw [List.mem_singleton.1 h1]; exact str_beside hp h.row hk
end Go.Proofs.Ytalpmnmpggljcaa
