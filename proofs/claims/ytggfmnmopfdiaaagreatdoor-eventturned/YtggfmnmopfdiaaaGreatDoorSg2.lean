/-
  Contracts of signing an event with a key.
-/
import Derived.Test.YtggfmnmopfdiaaaGreatDoorSg1
import Derived.Test.YtggfmnmopfdiaaaGreatDoorB6
import Derived.Test.YtggfmnmopfdiaaaGreatDoorE2
namespace Go.Proofs.YtggfmnmopfdiaaaGreatDoor
open Go.RowKit Go.Pal Go.Pal.Fr Go.Pal.Ev
set_option linter.unusedVariables false

theorem KeyGrown.box {w : World} {b B i : Nat} {seed : ByteArray} {h : Nat} {used : Int} {l : List Value} {v : Value} (hK : KeyGrown w b seed h used) (hB : Blk w B 24 l) : KeyGrown (w.setCell ⟨B, i, none⟩ v) b seed h used := by
  obtain ⟨g, hne, hk, hr⟩ := hK
  have h1 : b ≠ B := fun e => by
    unfold Blk at hk hB
    rw [e, hB] at hk
    injection hk with hk
    injection hk with _ h2
    exact absurd h2 (by decide)
  have h2 : g ≠ B := fun e => by
    unfold Blk at hr hB
    rw [e, hB] at hr
    injection hr with hr
    injection hr with _ h2
    exact absurd h2 (by decide)
  exact ⟨g, hne, hk.other (p := ⟨B, i, none⟩) h1 v, hr.other (p := ⟨B, i, none⟩) h2 v⟩
theorem KeyGrown.box5 {w : World} {b B : Nat} {seed : ByteArray} {h : Nat} {used : Int} {l : List Value} (hK : KeyGrown w b seed h used) (hB : Blk w B 24 l) (v0 v1 v2 v3 v4 : Value) : KeyGrown (((((w.setCell ⟨B, 0, none⟩ v0).setCell ⟨B, 1, none⟩ v1).setCell ⟨B, 2, none⟩ v2).setCell ⟨B, 3, none⟩ v3).setCell ⟨B, 4, none⟩ v4) b seed h used :=
  ((((hK.box hB).box (hB.set 0 _)).box ((hB.set 0 _).set 1 _)).box (((hB.set 0 _).set 1 _).set 2 _)).box ((((hB.set 0 _).set 1 _).set 2 _).set 3 _)
theorem grown5 {w w' : World} {row : Option Nat} (h : w.grownBy w' row) {g : Nat} (hg : w.heap.size ≤ g) (v0 v1 v2 v3 v4 : Value) : w.grownBy (((((w'.setCell ⟨g, 0, none⟩ v0).setCell ⟨g, 1, none⟩ v1).setCell ⟨g, 2, none⟩ v2).setCell ⟨g, 3, none⟩ v3).setCell ⟨g, 4, none⟩ v4) row :=
  grownBy_newSet (grownBy_newSet (grownBy_newSet (grownBy_newSet (grownBy_newSet h hg 0 _) hg 1 _) hg 2 _) hg 3 _) hg 4 _
theorem strRow5 {w : World} {a : Option Addr} {l : List ByteArray} (h : StrRow w a l) {R : Nat} (hf : ∀ b off, a = some ⟨b, off, none⟩ → b ≠ R) (v0 v1 v2 v3 v4 : Value) : StrRow (((((w.setCell ⟨R, 0, none⟩ v0).setCell ⟨R, 1, none⟩ v1).setCell ⟨R, 2, none⟩ v2).setCell ⟨R, 3, none⟩ v3).setCell ⟨R, 4, none⟩ v4) a l := by
  rcases h with h | ⟨b, off, rfl, hb, hc⟩
  · exact .inl h
  · exact .inr ⟨b, off, rfl, by simpa using hb, fun i hi => (set5_other (hf b off rfl) (off + i) _ _ _ _ _).trans (hc i hi)⟩
/-- The event with its author. -/
def authE (e : E) (A : ByteArray) : E := { e with author := A }
/-- Ahead of the calls: the two boxes, and the key. -/
structure Sb (w : World) (b : Nat) (wr : World) (e : E) (au : ByteArray) (a : Option Addr) (c : Nat) : Prop where
  src : Blk wr w.heap.size 24 [.int .i64 e.kind, .string au, .slice a e.parents.length c, .string e.body, .string e.sig]
  res : Blk wr (w.heap.size + 1) 24 [.int .i64 0, .string ⟨#[]⟩, .slice none 0 0, .string ⟨#[]⟩, .string ⟨#[]⟩]
  grown : w.grownBy wr (some b)
theorem Sb.below {w wr w' : World} {b : Nat} {e : E} {au : ByteArray} {a : Option Addr} {c : Nat} (h : Sb w b wr e au a c) (hb : Below wr.heap.size wr w') : Sb w b w' e au a c :=
  ⟨h.src.below hb h.src.lt, h.res.below hb h.res.lt, Lib.grownBy_below h.grown hb⟩
theorem Sb.key {w wr w' : World} {b : Nat} {e : E} {au : ByteArray} {a : Option Addr} {c : Nat} (h : Sb w b wr e au a c) (hbl : b < w.heap.size) (hg : wr.grownBy w' (some b)) : Sb w b w' e au a c :=
  ⟨h.src.grown hg (by simp; omega), h.res.grown hg (by simp; omega), Lib.grownBy_trans h.grown hg⟩
theorem Sb.start {w : World} {b : Nat} (e : E) (a : Option Addr) (c : Nat) : Sb w b ((w.alloc (.cells #[.int .i64 e.kind, .string e.author, .slice a e.parents.length c, .string e.body, .string e.sig] 24)).alloc (.cells #[.int .i64 0, .string ⟨#[]⟩, .slice none 0 0, .string ⟨#[]⟩, .string ⟨#[]⟩] 24)) e e.author a c :=
  ⟨(Blk.new w _ [_, _, _, _, _]).alloc _, Blk.new' _ _ [_, _, _, _, _] (by simp), Lib.grownBy_below (World.grownBy.refl w (some b)) ((alloc_below w _).alloc (by simp) _)⟩
theorem Sb.put {w wr : World} {b : Nat} {e : E} {au : ByteArray} {a : Option Addr} {c : Nat} (h : Sb w b wr e au a c) (A : ByteArray) : Sb w b (wr.setCell ⟨w.heap.size, 1, none⟩ (.string A)) e A a c :=
  ⟨h.src.set 1 _, h.res.other (by simp) _, grownBy_newSet h.grown (Nat.le_refl _) 1 _⟩
end Go.Proofs.YtggfmnmopfdiaaaGreatDoor
