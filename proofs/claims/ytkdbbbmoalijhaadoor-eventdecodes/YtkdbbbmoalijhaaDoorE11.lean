/-
  Contract of the document's own Decode of layer 6.
-/
import Derived.Test.YtkdbbbmoalijhaaDoorE3
import Derived.Test.YtkdbbbmoalijhaaDoorE4
import Derived.Test.YtkdbbbmoalijhaaDoorE8
import Derived.Test.YtkdbbbmoalijhaaDoorE10
import Derived.Test.YtkdbbbmoalijhaaDoorVal
namespace Go.Proofs.YtkdbbbmoalijhaaDoor
open Go.RowKit Go.Pal Go.Pal.Fr Go.Pal.Ev

/-- Inside Decode: the answer's box, the event's box, its own list. -/
structure Lq (w : World) (R eb B0 : Nat) (wr : World) (z0 z1 v z3 z4 : Value) (l : List ByteArray) : Prop where
  res : Blk wr R 25 [.int .i64 0, .string ⟨#[]⟩, .slice none 0 0, .string ⟨#[]⟩, .string ⟨#[]⟩]
  box : Blk wr eb 25 [z0, z1, v, z3, z4]
  own : wr.ownsRow B0 9 1 v l.length (l.map Value.string)
  bel : Below w.heap.size w wr
  base : B0 ≤ wr.heap.size
structure Pq (w : World) (R eb B0 : Nat) : Prop where
  pr : R = w.heap.size
  e1 : R < eb
  e2 : eb < B0
section
variable {w : World} {R eb B0 : Nat} {wr : World} {z0 z1 v z3 z4 : Value} {l : List ByteArray}
theorem Lq.drew (h : Lq w R eb B0 wr z0 z1 v z3 z4 l) : Lq w R eb B0 wr.drew z0 z1 v z3 z4 l := ⟨h.res.drew, h.box.drew, own_keep h.own (fun _ _ _ => rfl), h.bel.drew, h.base⟩
theorem Lq.drewN (h : Lq w R eb B0 wr z0 z1 v z3 z4 l) (n : Nat) : Lq w R eb B0 (wr.drewN n) z0 z1 v z3 z4 l := ⟨h.res.drewN n, h.box.drewN n, own_keep h.own (fun _ _ _ => rfl), ⟨h.bel.os, h.bel.tape, h.bel.output, h.bel.size, h.bel.block⟩, h.base⟩
theorem Lq.c (h : Lq w R eb B0 wr z0 z1 v z3 z4 l) : wr.cell? ⟨eb, 0, none⟩ = some z0 ∧ wr.cell? ⟨eb, 1, none⟩ = some z1 ∧ wr.cell? ⟨eb, 2, none⟩ = some v ∧ wr.cell? ⟨eb, 3, none⟩ = some z3 ∧ wr.cell? ⟨eb, 4, none⟩ = some z4 := ⟨h.box.cell 0, h.box.cell 1, h.box.cell 2, h.box.cell 3, h.box.cell 4⟩
theorem Lq.x (h : Lq w R eb B0 wr z0 z1 v z3 z4 l) : wr.cell? ⟨R, 0, none⟩ = some (.int .i64 0) ∧ wr.cell? ⟨R, 1, none⟩ = some (.string ⟨#[]⟩) ∧ wr.cell? ⟨R, 2, none⟩ = some (.slice none 0 0) ∧ wr.cell? ⟨R, 3, none⟩ = some (.string ⟨#[]⟩) ∧ wr.cell? ⟨R, 4, none⟩ = some (.string ⟨#[]⟩) ∧ ∀ i, wr.frozen? ⟨R, i, none⟩ = false := ⟨h.res.cell 0, h.res.cell 1, h.res.cell 2, h.res.cell 3, h.res.cell 4, h.res.frozen⟩
theorem Lq.below {w' : World} (h : Lq w R eb B0 wr z0 z1 v z3 z4 l) (hb : Below wr.heap.size wr w') : Lq w R eb B0 w' z0 z1 v z3 z4 l :=
  ⟨h.res.below hb h.res.lt, h.box.below hb h.box.lt, own_keep h.own (fun g _ h2 => hb.block g h2), h.bel.trans (hb.mono h.bel.size), Nat.le_trans h.base hb.size⟩
/-- A text more, stored. -/
theorem Lq.more {w8 : World} {o : Obj} {g cap : Nat} {x : ByteArray} (h : Lq w R eb B0 wr z0 z1 v z3 z4 l) (hp : Pq w R eb B0) (hown : w8.ownsRow B0 9 1 (.slice (some ⟨g, 0, none⟩) (l.length + 1) cap) (l.length + 1) (l.map Value.string ++ [Value.string x]))
    (hg : (wr.alloc o).grownBy w8 v.ownBlock) :
    w8.cell? ⟨eb, 2, none⟩ = some v ∧ w8.frozen? ⟨eb, 2, none⟩ = false ∧ Lq w R eb B0 (w8.setCell ⟨eb, 2, none⟩ (.slice (some ⟨g, 0, none⟩) (l.length + 1) cap)) z0 z1 (.slice (some ⟨g, 0, none⟩) (l.length + 1) cap) z3 z4 (l ++ [x]) := by
  obtain ⟨p1, p3, p4⟩ := hp
  have far : ∀ k, k < B0 → some k ≠ v.ownBlock := fun k hk e => by have := (h.own.lt k e.symm).1; omega
  have hb := h.bel.size
  have hB := h.base
  have hgs := hg.size
  have hs1 : (wr.alloc o).heap.size = wr.heap.size + 1 := by simp
  have hbox : Blk w8 eb 25 [z0, z1, v, z3, z4] := (h.box.alloc o).grown hg (far eb p4)
  have hres := (h.res.alloc o).grown hg (far R (by omega))
  have hbel : Below w.heap.size w w8 := (h.bel.alloc h.bel.size o).grown hg (by omega) (fun k hk => by have := (h.own.lt k hk).1; omega)
  refine ⟨hbox.cell 2, hbox.frozen 2, ⟨?_, hbox.set 2 _, ?_, ?_, ?_⟩⟩
  · exact hres.other (by simp; omega) _
  · rw [List.length_append, List.map_append]
    exact own_keep hown (fun g h1 h2 => by rw [heap_setCell_other _ _ _ _ (by simp; omega)])
  · exact hbel.setCell (by simp; omega) _
  · simp; omega
/-- A field, stored. -/
theorem Lq.put (h : Lq w R eb B0 wr z0 z1 v z3 z4 l) (hp : Pq w R eb B0) (u : Value) :
    Lq w R eb B0 (wr.setCell ⟨eb, 3, none⟩ u) z0 z1 v u z4 l ∧ Lq w R eb B0 (wr.setCell ⟨eb, 4, none⟩ u) z0 z1 v z3 u l := by
  obtain ⟨p1, p3, p4⟩ := hp
  have hb := h.bel.size
  constructor
  all_goals
    refine ⟨h.res.other (by simp; omega) _, h.box.set _ _, ?_, h.bel.setCell (by simp; omega) _, by simp; exact h.base⟩
    exact own_keep h.own (fun g h1 h2 => by rw [heap_setCell_other _ _ _ _ (by simp; omega)])
end
/-- What the document's Decode answers. -/
def RdP (s : ByteArray) (r : Ending) (w' : World) : Prop :=
  (∃ e a c, evOk e = true ∧ evB e = s ∧ r = .returned (.tuple #[evV e a c, .bool true]) ∧ StrRow w' a e.parents ∧ e.parents.length ≤ c) ∨
  ((∀ e, evOk e = true → evB e ≠ s) ∧ r = .returned (.tuple #[evV zero none 0, .bool false]))
theorem RdP.no {s : ByteArray} {w' : World} (h : ∀ e, evOk e = true → There e s → False) : RdP s (.returned (.tuple #[evV zero none 0, .bool false])) w' :=
  .inr ⟨fun e hok he => h e hok (by have := there e hok; rwa [he] at this), rfl⟩
theorem val2 (n : Nat) (h : n < 65536) : valL (be 2 n).data.toList = n := by
  rw [show (be 2 n).data.toList = beL 2 n from rfl, valL_beL 2 n (by simpa using h)]
end Go.Proofs.YtkdbbbmoalijhaaDoor
