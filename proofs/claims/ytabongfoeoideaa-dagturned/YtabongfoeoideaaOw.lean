/-
  What turns of the world leave of it, and what a row of one's own keeps. No program in sight.
-/
import Derived.Test.YtabongfoeoideaaBlk
import Derived.Test.YtabongfoeoideaaShPlain
import Derived.Maps.OwnSet
import Derived.Maps.Own
namespace Go.Pal
open Go.RowKit
/-- All blocks but those of S are as they were. -/
structure Off (S : Nat → Prop) (w w' : World) : Prop where
  os : w'.os = w.os
  tape : w'.tape = w.tape
  output : w'.output = w.output
  size : w.heap.size ≤ w'.heap.size
  block : ∀ g, g < w.heap.size → ¬ S g → w'.heap[g]? = w.heap[g]?
theorem Off.refl (S : Nat → Prop) (w : World) : Off S w w := ⟨rfl, rfl, rfl, Nat.le_refl _, fun _ _ _ => rfl⟩
theorem Off.trans {S T : Nat → Prop} {w w1 w2 : World} (h : Off S w w1) (h2 : Off T w1 w2) (ht : ∀ g, g < w.heap.size → T g → S g) : Off S w w2 :=
  ⟨h2.os.trans h.os, h2.tape.trans h.tape, h2.output.trans h.output, Nat.le_trans h.size h2.size, fun g hg hs => (h2.block g (Nat.lt_of_lt_of_le hg h.size) (fun hh => hs (ht g hg hh))).trans (h.block g hg hs)⟩
theorem Off.mono {S T : Nat → Prop} {w w1 : World} (h : Off S w w1) (ht : ∀ g, g < w.heap.size → S g → T g) : Off T w w1 := ⟨h.os, h.tape, h.output, h.size, fun g hg hs => h.block g hg (fun hh => hs (ht g hg hh))⟩
theorem Off.of_grown {w w' : World} {row : Option Nat} (h : w.grownBy w' row) : Off (fun g => row = some g) w w' := ⟨h.os, h.tape, h.output, h.size, fun g hg hs => h.block g hg (fun e => hs e.symm)⟩
theorem Off.of_below {n : Nat} {w w' : World} (h : Below n w w') : Off (fun g => n ≤ g) w w' := ⟨h.os, h.tape, h.output, h.size, fun g _ hs => h.block g (by omega)⟩
theorem Off.of_new {w w' : World} (h : Below w.heap.size w w') (S : Nat → Prop) : Off S w w' := ⟨h.os, h.tape, h.output, h.size, fun g hg _ => h.block g hg⟩
theorem Off.below {S : Nat → Prop} {n : Nat} {w w' : World} (h : Off S w w') (hs : ∀ g, S g → n ≤ g) (hn : n ≤ w.heap.size) : Below n w w' := ⟨h.os, h.tape, h.output, h.size, fun g hg => h.block g (by omega) (fun hh => by have := hs g hh; omega)⟩
theorem Off.set {S : Nat → Prop} {w w' : World} (h : Off S w w') {p : Addr} (hp : w.heap.size ≤ p.block ∨ S p.block) (v : Value) : Off S w (w'.setCell p v) :=
  ⟨h.os, h.tape, h.output, by simpa using h.size, fun g hg hs => (Below.heap_setCell w' p v g (fun e => by rcases hp with h1 | h1; · omega
                                                                                                           · exact hs (e ▸ h1))).trans (h.block g hg hs)⟩
theorem Off.drew {S : Nat → Prop} {w w' : World} (h : Off S w w') : Off S w w'.drew := ⟨h.os, h.tape, h.output, h.size, h.block⟩
theorem Off.alloc {S : Nat → Prop} {w w' : World} (h : Off S w w') (o : Obj) : Off S w (w'.alloc o) :=
  ⟨h.os, h.tape, h.output, by have := h.size; simp; omega, fun g hg hs => (Below.heap_alloc w' o g (Nat.lt_of_lt_of_le hg h.size)).trans (h.block g hg hs)⟩
theorem own_lt {w : World} {base n : Nat} {t : TypeId} {size : Nat} {v : Value} {l : List Value} (h : w.ownsRow base t size v n l) {g : Nat} (hg : v.ownBlock = some g) : g < w.heap.size ∧ base ≤ g ∧ ∃ cur, w.heap[g]? = some (.cells cur t (0, 0)) := by
  rcases h.2 with ⟨rfl, _⟩ | ⟨g', cap, cur, rfl, hb, hh, _⟩
  · cases hg
  · obtain rfl : g' = g := by simpa [Value.ownBlock] using hg
    exact ⟨(Array.getElem?_eq_some_iff.1 hh).1, hb, cur, hh⟩
theorem own_kept {w w' : World} {base n : Nat} {t : TypeId} {size : Nat} {v : Value} {l : List Value} (h : w.ownsRow base t size v n l) (hk : ∀ g, v.ownBlock = some g → w'.heap[g]? = w.heap[g]?) : w'.ownsRow base t size v n l := by
  refine ⟨h.1, ?_⟩
  rcases h.2 with h2 | ⟨g, cap, cur, e, hb, hh, r⟩
  · exact .inl h2
  · exact .inr ⟨g, cap, cur, e, hb, (hk g (by rw [e]; rfl)).trans hh, r⟩
end Go.Pal
