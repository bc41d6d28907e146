/-
  Contracts of package store: a state takes one record more.
-/
import Derived.Test.YtffnkomnldgcaaaGreatDoorLg3
namespace Go.Proofs.YtffnkomnldgcaaaGreatDoor
open Go.RowKit Go.Pal Go.Pal.Dk Go.Pal.Fr Go.Pal.Cr

/-- A store in memory. -/
structure StAt (w : World) (base B : Nat) (p : Value) (s : SS) (ev q : Value) : Prop where
  blk : Blk w B 59 [p, .string s.room, ev, .int .i64 (s.used : Int), q]
  evs : QR w 9 base ev s.events
  qs : QR w 9 base q s.queue
  apart : ∀ g, ev.ownBlock = some g → q.ownBlock ≠ some g
  used : s.used ≤ 65535
def RowB (B : Nat) (ev q : Value) (g : Nat) : Prop := g = B ∨ ev.ownBlock = some g ∨ q.ownBlock = some g
/-- What a turn of the state leaves. -/
def Taken (w : World) (base B : Nat) (p ev q : Value) (s' : SS) (w' : World) : Prop :=
  ∃ ev' q', StAt w' base B p s' ev' q' ∧ Off (RowB B ev q) w w' ∧ ∀ g, ev'.ownBlock = some g ∨ q'.ownBlock = some g → (ev.ownBlock = some g ∨ q.ownBlock = some g) ∨ w.heap.size ≤ g
theorem StAt.keep {w w' : World} {base B : Nat} {p : Value} {s : SS} {ev q : Value} (h : StAt w base B p s ev q) (hk : ∀ g, RowB B ev q g → w'.heap[g]? = w.heap[g]?) : StAt w' base B p s ev q :=
  ⟨(hk B (.inl rfl)).trans h.blk, h.evs.keep (fun g hg => hk g (.inr (.inl hg))), h.qs.keep (fun g hg => hk g (.inr (.inr hg))), h.apart, h.used⟩
theorem StAt.ev_ne {w : World} {base B : Nat} {p : Value} {s : SS} {ev q : Value} (h : StAt w base B p s ev q) : ev.ownBlock ≠ some B := QR.notBlk h.blk (by decide) h.evs
theorem StAt.q_ne {w : World} {base B : Nat} {p : Value} {s : SS} {ev q : Value} (h : StAt w base B p s ev q) : q.ownBlock ≠ some B := QR.notBlk h.blk (by decide) h.qs
theorem StAt.row_lt {w : World} {base B : Nat} {p : Value} {s : SS} {ev q : Value} (h : StAt w base B p s ev q) {g : Nat} (hg : RowB B ev q g) : g < w.heap.size := by
  rcases hg with rfl | hg | hg
  · exact h.blk.lt
  · exact (h.evs.lt hg).1
  · exact (h.qs.lt hg).1
theorem cell_keep {w : World} {B : Nat} {i : Nat} {x v : Value} {t : TypeId} {base : Nat} {l : List ByteArray} (h : QR w t base v l) (hne : v.ownBlock ≠ some B) : QR (w.setCell ⟨B, i, none⟩ x) t base v l :=
  h.keep (fun g hg => Below.heap_setCell w _ _ g (fun e => hne (by rw [hg]; exact congrArg some e)))
/-- The state with another room. -/
theorem StAt.room {w : World} {base B : Nat} {p : Value} {s : SS} {ev q : Value} (h : StAt w base B p s ev q) (r : ByteArray) : Taken w base B p ev q { s with room := r } (w.setCell ⟨B, 1, none⟩ (.string r)) :=
  ⟨ev, q, ⟨h.blk.set 1 (.string r), cell_keep h.evs h.ev_ne, cell_keep h.qs h.q_ne, h.apart, h.used⟩, (Off.refl _ _).set (.inr (.inl rfl)) _, fun _ hg => .inl hg⟩
theorem StAt.use {w : World} {base B : Nat} {p : Value} {s : SS} {ev q : Value} (h : StAt w base B p s ev q) (n : Nat) (hn : n ≤ 65535) : Taken w base B p ev q { s with used := n } (w.setCell ⟨B, 3, none⟩ (.int .i64 (n : Int))) :=
  ⟨ev, q, ⟨h.blk.set 3 (.int .i64 (n : Int)), cell_keep h.evs h.ev_ne, cell_keep h.qs h.q_ne, h.apart, hn⟩, (Off.refl _ _).set (.inr (.inl rfl)) _, fun _ hg => .inl hg⟩
/-- One event more. -/
theorem StAt.event {w w1 : World} {base B : Nat} {p : Value} {s : SS} {ev q v : Value} (h : StAt w base B p s ev q) (r : ByteArray) (o : Obj) (hq : QR w1 9 base v (s.events ++ [r])) (hg : (w.alloc o).grownBy w1 ev.ownBlock)
    (ha : ∀ b, v.ownBlock = some b → ev.ownBlock = some b ∨ w.heap.size + 1 ≤ b) : Taken w base B p ev q { s with events := s.events ++ [r] } (w1.setCell ⟨B, 2, none⟩ v) := by
  have hz : (w.alloc o).heap.size = w.heap.size + 1 := by simp
  have blkA : ∀ g, g < w.heap.size → ev.ownBlock ≠ some g → w1.heap[g]? = w.heap[g]? := fun g hlt hne => (hg.block g (by omega) (fun e => hne e.symm)).trans (heap_alloc_old w o hlt)
  have b1 : Blk w1 B 59 [p, .string s.room, ev, .int .i64 (s.used : Int), q] := (blkA B h.blk.lt h.ev_ne).trans h.blk
  have hvB : v.ownBlock ≠ some B := fun e => by
    rcases ha B e with h1 | h1
    · exact h.ev_ne h1
    · have := h.blk.lt; omega
  refine ⟨v, q, ⟨b1.set 2 v, cell_keep hq hvB, cell_keep (h.qs.keep (fun g hg2 => blkA g (h.qs.lt hg2).1 (fun e => h.apart g e hg2))) h.q_ne, fun g hv hq2 => ?_, h.used⟩, ?_, fun g hg2 => ?_⟩
  · rcases ha g hv with h1 | h1
    · exact h.apart g h1 hq2
    · have := (h.qs.lt hq2).1; omega
  · refine Off.set ?_ (.inr (.inl rfl)) _
    exact ⟨hg.os, hg.tape, hg.output, by have := hg.size; omega, fun g hlt hs => blkA g hlt (fun e => hs (.inr (.inl e)))⟩
  · rcases hg2 with h1 | h1
    · rcases ha g h1 with h2 | h2
      · exact .inl (.inl h2)
      · exact .inr (by omega)
    · exact .inl (.inr h1)
/-- One text more that waits. -/
theorem StAt.wait {w w1 : World} {base B : Nat} {p : Value} {s : SS} {ev q v : Value} (h : StAt w base B p s ev q) (r : ByteArray) (o : Obj) (hq : QR w1 9 base v (s.queue ++ [r])) (hg : (w.alloc o).grownBy w1 q.ownBlock)
    (ha : ∀ b, v.ownBlock = some b → q.ownBlock = some b ∨ w.heap.size + 1 ≤ b) : Taken w base B p ev q { s with queue := s.queue ++ [r] } (w1.setCell ⟨B, 4, none⟩ v) := by
  have hz : (w.alloc o).heap.size = w.heap.size + 1 := by simp
  have blkA : ∀ g, g < w.heap.size → q.ownBlock ≠ some g → w1.heap[g]? = w.heap[g]? := fun g hlt hne => (hg.block g (by omega) (fun e => hne e.symm)).trans (heap_alloc_old w o hlt)
  have b1 : Blk w1 B 59 [p, .string s.room, ev, .int .i64 (s.used : Int), q] := (blkA B h.blk.lt h.q_ne).trans h.blk
  have hvB : v.ownBlock ≠ some B := fun e => by
    rcases ha B e with h1 | h1
    · exact h.q_ne h1
    · have := h.blk.lt; omega
  refine ⟨ev, v, ⟨b1.set 4 v, cell_keep (h.evs.keep (fun g hg2 => blkA g (h.evs.lt hg2).1 (fun e => h.apart g hg2 e))) h.ev_ne, cell_keep hq hvB, fun g he hv => ?_, h.used⟩, ?_, fun g hg2 => ?_⟩
  · rcases ha g hv with h1 | h1
    · exact h.apart g he h1
    · have := (h.evs.lt he).1; omega
  · refine Off.set ?_ (.inr (.inl rfl)) _
    exact ⟨hg.os, hg.tape, hg.output, by have := hg.size; omega, fun g hlt hs => blkA g hlt (fun e => hs (.inr (.inr e)))⟩
  · rcases hg2 with h1 | h1
    · exact .inl (.inl h1)
    · rcases ha g h1 with h2 | h2
      · exact .inl (.inr h2)
      · exact .inr (by omega)
/-- The first text is struck, and the row moved on. -/
theorem QR.strike {w : World} {t : TypeId} {base g off cap : Nat} {l : List ByteArray} (h : QR w t base (.slice (some ⟨g, off, none⟩) l.length cap) l) (h0 : l ≠ []) (x : Value) :
    QR (w.setCell ⟨g, off, none⟩ x) t base (.slice (some ⟨g, if 1 < cap then off + 1 else off, none⟩) (l.length - 1) (cap - 1)) l.tail := by
  rcases h with ⟨h1, _⟩ | ⟨g', off', cap', cur, e, hb, hh, h2, h3, h4, h5⟩
  · cases h1
  · cases e
    have hl : 0 < l.length := List.length_pos_iff.2 h0
    have hd : (w.setCell ⟨g, off, none⟩ x).heap[g]? = some (.cells (cur.setIfInBounds off x) t (0, 0)) := by
      simp [World.setCell, Array.getElem?_modify, hh]
    refine .inr ⟨g, _, cap - 1, cur.setIfInBounds off x, by rw [List.length_tail], hb, hd, ?_, by rw [List.length_tail]; omega, by omega, fun i hi => ?_⟩
    · simp
      split <;> omega
    · rw [List.length_tail] at hi
      rw [if_pos (by omega)]
      have := h5 (i + 1) (by omega)
      rw [show off + 1 + i = off + (i + 1) by omega, Array.getElem?_setIfInBounds, if_neg (by omega), this]
      congr 2
      rw [List.getD_eq_getElem?_getD, List.getD_eq_getElem?_getD, List.getElem?_tail]
theorem StAt.done {w : World} {base B g off cap : Nat} {p : Value} {s : SS} {ev : Value} (h : StAt w base B p s ev (.slice (some ⟨g, off, none⟩) s.queue.length cap)) (h0 : s.queue ≠ []) (x : Value) :
    Taken w base B p ev (.slice (some ⟨g, off, none⟩) s.queue.length cap) { s with queue := s.queue.tail } ((w.setCell ⟨g, off, none⟩ x).setCell ⟨B, 4, none⟩ (.slice (some ⟨g, if 1 < cap then off + 1 else off, none⟩) (s.queue.length - 1) (cap - 1))) := by
  have hq := h.q_ne
  have hgB : g ≠ B := fun e => hq (by simp [Value.ownBlock, e])
  have b1 : Blk (w.setCell ⟨g, off, none⟩ x) B 59 [p, .string s.room, ev, .int .i64 (s.used : Int), .slice (some ⟨g, off, none⟩) s.queue.length cap] := h.blk.other (p := ⟨g, off, none⟩) (fun e => hgB e.symm) x
  refine ⟨ev, _, ⟨b1.set 4 _, cell_keep (h.evs.keep (fun k hk => Below.heap_setCell w _ _ k (fun e => ?_))) h.ev_ne, cell_keep (QR.strike h.qs h0 x) (by simp [Value.ownBlock, hgB]), fun k hk hk2 => ?_, h.used⟩, ?_, fun k hk => ?_⟩
  · have e' : k = g := e
    subst e'
    exact h.apart k hk rfl
  · have e' : g = k := by simpa [Value.ownBlock] using hk2
    subst e'
    exact h.apart g hk rfl
  · exact ((Off.refl _ _).set (.inr (.inr (.inr rfl))) _).set (.inr (.inl rfl)) _
  · rcases hk with h1 | h1
    · exact .inl (.inl h1)
    · exact .inl (.inr h1)
end Go.Proofs.YtffnkomnldgcaaaGreatDoor
