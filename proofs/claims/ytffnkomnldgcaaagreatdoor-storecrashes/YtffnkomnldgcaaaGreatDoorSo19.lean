/-
  The comparison of a store's state with the document's, as the laws ask it.
-/
import Derived.Test.YtffnkomnldgcaaaGreatDoorSo12
import Derived.Test.YtffnkomnldgcaaaGreatDoorSo14
namespace Go.Proofs.YtffnkomnldgcaaaGreatDoor
open Go.RowKit Go.Pal Go.Pal.Dk Go.Pal.Fr Go.Pal.Cr

/-- The calls of the comparison, over one older world. -/
theorem state_at {w7 : World} {base B : Nat} {p : Value} {s : SS} {ev q : Value} (h : StAt w7 base B p s ev q) (hz : SzS s 1000000) (Wq : World) (hq : Below w7.heap.size w7 Wq) :
    Calls Tryz.prog 13 #[.pointer (some ⟨B, 0, none⟩)] Wq fun e w' => ∃ v, e = .returned (vsV s v) ∧ VsAt w' s v ∧ Below w7.heap.size w7 w' := by
  refine (state_any (h.keep (w' := Wq) (fun g hg => hq.block g (h.row_lt hg))) hz).mono ?_
  intro e w' ht
  obtain ⟨v, a, b, c⟩ := ht.vs
  exact ⟨v, a, b, hq.trans (c.mono hq.size)⟩
theorem as_at {w7 : World} {s : SS} (Wq : World) (v : Vs) (hv : VsAt Wq s v) (hq : Below w7.heap.size w7 Wq) :
    Calls Tryz.prog 12 #[vsV s v] Wq fun e w' => e = .returned (vsV s v) ∧ VsAt w' s v ∧ Below w7.heap.size w7 w' :=
  (as_any Wq s v).mono (fun _ _ ⟨a, b⟩ => ⟨a, hv.below b, hq.trans (b.mono hq.size)⟩)
theorem same_at {w7 : World} {s t : SS} {u : Vs} (hs : SzS s 1000000) (ht : SzS t 1000000) (hu : VsAt w7 t u) (Wq : World) (v : Vs) (hv : VsAt Wq s v) (hq : Below w7.heap.size w7 Wq) :
    Calls Tryz.prog 15 #[vsV s v, vsV t u] Wq fun e w' => e = .returned (.bool (sameB s t)) ∧ Below w7.heap.size w7 w' :=
  (same_so Wq s t v u hv (hu.below hq) hs ht).mono (fun _ _ ⟨a, b⟩ => ⟨a, hq.trans (b.mono hq.size)⟩)
theorem VsAt.keep {w w' : World} {s : SS} {v : Vs} (h : VsAt w s v) (h1 : ∀ g, g < w.heap.size → (Value.slice v.a1 s.events.length v.c1).ownBlock = some g → w'.heap[g]? = w.heap[g]?) (h2 : ∀ g, g < w.heap.size → (Value.slice v.a2 s.queue.length v.c2).ownBlock = some g → w'.heap[g]? = w.heap[g]?) : VsAt w' s v := by
  have hk : ∀ (a : Option Addr) (l : List ByteArray) (c : Nat), (∀ g, g < w.heap.size → (Value.slice a l.length c).ownBlock = some g → w'.heap[g]? = w.heap[g]?) → StrRow w a l → StrRow w' a l := by
    intro a l c hn hr
    rcases hr with h0 | ⟨b, off, e, hl, hc⟩
    · exact .inl h0
    · subst e
      have h4 := hn b hl (by simp [Value.ownBlock])
      refine .inr ⟨b, off, rfl, ?_, fun i hi => (World.cell?_of_block (a := ⟨b, off + i, none⟩) h4).trans (hc i hi)⟩
      rcases Nat.lt_or_ge b w'.heap.size with h5 | h5
      · exact h5
      · rw [Array.getElem?_eq_none h5] at h4
        have := Array.getElem?_eq_none_iff.1 h4.symm
        omega
  exact ⟨hk _ _ _ h1 h.r1, hk _ _ _ h2 h.r2, h.n1, h.n2⟩
/-- A state whose rows lie elsewhere, behind four stores into a box. -/
theorem VsAt.set4 {w : World} {s : SS} {v : Vs} (h : VsAt w s v) {R : Nat} (h1 : (Value.slice v.a1 s.events.length v.c1).ownBlock ≠ some R) (h2 : (Value.slice v.a2 s.queue.length v.c2).ownBlock ≠ some R) (a0 a1 a2 a3 : Value) : VsAt ((((w.setCell ⟨R, 0, none⟩ a0).setCell ⟨R, 1, none⟩ a1).setCell ⟨R, 2, none⟩ a2).setCell ⟨R, 3, none⟩ a3) s v := by
  have hk : ∀ (a : Option Addr) (l : List ByteArray) (c : Nat), (Value.slice a l.length c).ownBlock ≠ some R → StrRow w a l → StrRow ((((w.setCell ⟨R, 0, none⟩ a0).setCell ⟨R, 1, none⟩ a1).setCell ⟨R, 2, none⟩ a2).setCell ⟨R, 3, none⟩ a3) a l := by
    intro a l c hn hr
    rcases hr with h0 | ⟨b, off, e, hl, hc⟩
    · exact .inl h0
    · subst e
      have hb : b ≠ R := fun e => hn (by simp [Value.ownBlock, e])
      have h4 := heap4 w R b hb a0 a1 a2 a3
      refine .inr ⟨b, off, rfl, ?_, fun i hi => (World.cell?_of_block (a := ⟨b, off + i, none⟩) h4).trans (hc i hi)⟩
      rcases Nat.lt_or_ge b ((((w.setCell ⟨R, 0, none⟩ a0).setCell ⟨R, 1, none⟩ a1).setCell ⟨R, 2, none⟩ a2).setCell ⟨R, 3, none⟩ a3).heap.size with h5 | h5
      · exact h5
      · rw [Array.getElem?_eq_none h5] at h4
        have := Array.getElem?_eq_none_iff.1 h4.symm
        omega
  exact ⟨hk _ _ _ h1 h.r1, hk _ _ _ h2 h.r2, h.n1, h.n2⟩
end Go.Proofs.YtffnkomnldgcaaaGreatDoor
