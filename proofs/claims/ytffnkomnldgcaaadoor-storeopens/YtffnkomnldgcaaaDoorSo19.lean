/-
  The comparison of a store's state with the document's, as the laws ask it.
-/
import Derived.Test.YtffnkomnldgcaaaDoorSo12
import Derived.Test.YtffnkomnldgcaaaDoorSo14
namespace Go.Proofs.YtffnkomnldgcaaaDoor
open Go.RowKit Go.Pal Go.Pal.Dk Go.Pal.Fr Go.Pal.Cr

/-- The calls of the comparison, over one older world. -/
theorem state_at {w7 : World} {base B : Nat} {p : Value} {s : SS} {ev q : Value} (h : StAt w7 base B p s ev q) (hz : SzS s 1000000) (Wq : World) (hq : Below w7.heap.size w7 Wq) :
    Calls Tryd.prog 16 #[.pointer (some ⟨B, 0, none⟩)] Wq fun e w' => ∃ v, e = .returned (vsV s v) ∧ VsAt w' s v ∧ Below w7.heap.size w7 w' := by
  refine (state_any (h.keep (w' := Wq) (fun g hg => hq.block g (h.row_lt hg))) hz).mono ?_
  intro e w' ht
  obtain ⟨v, a, b, c⟩ := ht.vs
  exact ⟨v, a, b, hq.trans (c.mono hq.size)⟩
theorem as_at {w7 : World} {s : SS} (Wq : World) (v : Vs) (hv : VsAt Wq s v) (hq : Below w7.heap.size w7 Wq) :
    Calls Tryd.prog 15 #[vsV s v] Wq fun e w' => e = .returned (vsV s v) ∧ VsAt w' s v ∧ Below w7.heap.size w7 w' :=
  (as_any Wq s v).mono (fun _ _ ⟨a, b⟩ => ⟨a, hv.below b, hq.trans (b.mono hq.size)⟩)
theorem same_at {w7 : World} {s t : SS} {u : Vs} (hs : SzS s 1000000) (ht : SzS t 1000000) (hu : VsAt w7 t u) (Wq : World) (v : Vs) (hv : VsAt Wq s v) (hq : Below w7.heap.size w7 Wq) :
    Calls Tryd.prog 14 #[vsV s v, vsV t u] Wq fun e w' => e = .returned (.bool (sameB s t)) ∧ Below w7.heap.size w7 w' :=
  (same_so Wq s t v u hv (hu.below hq) hs ht).mono (fun _ _ ⟨a, b⟩ => ⟨a, hq.trans (b.mono hq.size)⟩)
end Go.Proofs.YtffnkomnldgcaaaDoor
