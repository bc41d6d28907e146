/-
  The document's Same of two like events; Sign without a key.
-/
import Derived.Test.YtpaiccegaphjaaaDoorE1
import Derived.Handy
namespace Go.Proofs.YtpaiccegaphjaaaDoor
open Go.RowKit Go.Pal Go.Pal.Fr Go.Pal.Ev

/-- An event that came in: its list of parents, and what bounds it. -/
structure Came (w : World) (e : E) (a : Option Addr) (c : Nat) : Prop where
  row : StrRow w a e.parents
  len : e.parents.length ≤ maxLen
  cap : e.parents.length ≤ c
  each : ∀ i, (at' e.parents i).size ≤ maxLen
  body : e.body.size ≤ maxLen
  author : e.author.size ≤ maxLen
  sig : e.sig.size ≤ maxLen
theorem Came.below {w w' : World} {e : E} {a : Option Addr} {c : Nat} (h : Came w e a c) (hb : Below w.heap.size w w') : Came w' e a c := ⟨h.row.below hb, h.len, h.cap, h.each, h.body, h.author, h.sig⟩
theorem box_cells2 {w : World} {v0 v1 v2 v3 v4 u0 u1 u2 u3 u4 : Value} {t : TypeId} {w1 : World} (q : Same ((w.alloc (.cells #[v0, v1, v2, v3, v4] t)).alloc (.cells #[u0, u1, u2, u3, u4] t)) w1) :
    w1.cell? ⟨w.heap.size, 2, none⟩ = some v2 ∧ w1.cell? ⟨w.heap.size + 1, 2, none⟩ = some u2 := by
  refine ⟨?_, ?_⟩
  · rw [q.cell, ((alloc_below (w.alloc (.cells #[v0, v1, v2, v3, v4] t)) _).cell (p := ⟨w.heap.size, 2, none⟩) (by simp)), World.cell?_alloc_mark]; simp
  · rw [q.cell]
    have e : (w.alloc (.cells #[v0, v1, v2, v3, v4] t)).heap.size = w.heap.size + 1 := by simp
    rw [← e, World.cell?_alloc_mark]; simp

end Go.Proofs.YtpaiccegaphjaaaDoor
