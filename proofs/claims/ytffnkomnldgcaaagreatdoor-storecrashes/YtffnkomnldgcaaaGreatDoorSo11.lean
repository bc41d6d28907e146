/-
  The document's answers for layer 11: Of.
-/
import Derived.Test.YtffnkomnldgcaaaGreatDoorSo10
import Derived.Test.YtffnkomnldgcaaaGreatDoorB9
namespace Go.Proofs.YtffnkomnldgcaaaGreatDoor
open Go.RowKit Go.Pal Go.Pal.Dk Go.Pal.Fr Go.Pal.Cr

/-- A state in a cell of the document's own. -/
structure RfAt (w : World) (base R : Nat) (s : SS) (ev q : Value) : Prop where
  blk : Blk w R 36 [.string s.room, ev, .int .i64 (s.used : Int), q]
  evs : QR w 9 base ev s.events
  qs : QR w 9 base q s.queue
  apart : ∀ g, ev.ownBlock = some g → q.ownBlock ≠ some g
theorem RfAt.ev_ne {w : World} {base R : Nat} {s : SS} {ev q : Value} (h : RfAt w base R s ev q) : ev.ownBlock ≠ some R := QR.notBlk h.blk (by decide) h.evs
theorem RfAt.q_ne {w : World} {base R : Nat} {s : SS} {ev q : Value} (h : RfAt w base R s ev q) : q.ownBlock ≠ some R := QR.notBlk h.blk (by decide) h.qs
/-- What Of keeps from record to record. -/
structure Ro (w : World) (l : List ByteArray) (k : Nat) (s : SS) (ev q : Value) (wr : World) : Prop where
  of : ofR ss0 (l.take k) = some s
  sz : SzS s k
  us : s.used ≤ 65535
  rf : RfAt wr (w.heap.size + 2) (w.heap.size + 1) s ev q
  res : Blk wr w.heap.size 36 [.string ⟨#[]⟩, .slice none 0 0, .int .i64 0, .slice none 0 0]
  bel : Below w.heap.size w wr
theorem Ro.lt {w : World} {l : List ByteArray} {k : Nat} {s : SS} {ev q : Value} {wr : World} (h : Ro w l k s ev q wr) : w.heap.size + 2 ≤ wr.heap.size := by have := h.rf.blk.lt; omega
theorem ofR_step {l : List ByteArray} {k : Nat} {s s' : SS} (hk : k < l.length) (h : ofR ss0 (l.take k) = some s) (ht : takeR s (l.getD k ByteArray.empty) = some s') : ofR ss0 (l.take (k + 1)) = some s' := by
  have e : l[k] = l.getD k ByteArray.empty := by rw [List.getD_eq_getElem?_getD, List.getElem?_eq_getElem hk]; rfl
  rw [ofR_take l ss0 k hk, h, e]; exact ht
theorem Ro.room {w : World} {l : List ByteArray} {k : Nat} {s : SS} {ev q : Value} {wr : World} (h : Ro w l k s ev q wr) {r : ByteArray} {n : Nat} (h1 : ofR ss0 (l.take (k + 1)) = some { s with room := r }) (h2 : SzS { s with room := r } (k + 1)) : Ro w l (k + 1) { s with room := r } ev q ((wr.drewN n).setCell ⟨w.heap.size + 1, 0, none⟩ (.string r)) :=
  ⟨h1, h2, h.us, ⟨(Blk.drewN h.rf.blk n).set 0 (.string r), cell_keep (w := wr.drewN n) (h.rf.evs.keep (fun _ _ => rfl)) h.rf.ev_ne, cell_keep (w := wr.drewN n) (h.rf.qs.keep (fun _ _ => rfl)) h.rf.q_ne, h.rf.apart⟩, (Blk.drewN h.res n).other (p := ⟨w.heap.size + 1, 0, none⟩) (by simp) _, Below.setCell (w := wr.drewN n) ⟨h.bel.os, h.bel.tape, h.bel.output, h.bel.size, h.bel.block⟩ (p := ⟨w.heap.size + 1, 0, none⟩) (by simp) _⟩
theorem Ro.use {w : World} {l : List ByteArray} {k : Nat} {s : SS} {ev q : Value} {wr : World} (h : Ro w l k s ev q wr) {m n : Nat} (hm : m ≤ 65535) (h1 : ofR ss0 (l.take (k + 1)) = some { s with used := m }) (h2 : SzS { s with used := m } (k + 1)) : Ro w l (k + 1) { s with used := m } ev q ((wr.drewN n).setCell ⟨w.heap.size + 1, 2, none⟩ (.int .i64 (m : Int))) :=
  ⟨h1, h2, hm, ⟨(Blk.drewN h.rf.blk n).set 2 (.int .i64 (m : Int)), cell_keep (w := wr.drewN n) (h.rf.evs.keep (fun _ _ => rfl)) h.rf.ev_ne, cell_keep (w := wr.drewN n) (h.rf.qs.keep (fun _ _ => rfl)) h.rf.q_ne, h.rf.apart⟩, (Blk.drewN h.res n).other (p := ⟨w.heap.size + 1, 2, none⟩) (by simp) _, Below.setCell (w := wr.drewN n) ⟨h.bel.os, h.bel.tape, h.bel.output, h.bel.size, h.bel.block⟩ (p := ⟨w.heap.size + 1, 2, none⟩) (by simp) _⟩
theorem Ro.like {w : World} {l : List ByteArray} {k : Nat} {s : SS} {ev q : Value} {wr : World} (h : Ro w l k s ev q wr) (n : Nat) : Ro w l k s ev q (wr.drewN n) :=
  ⟨h.of, h.sz, h.us, ⟨Blk.drewN h.rf.blk n, h.rf.evs.keep (fun _ _ => rfl), h.rf.qs.keep (fun _ _ => rfl), h.rf.apart⟩, Blk.drewN h.res n, ⟨h.bel.os, h.bel.tape, h.bel.output, h.bel.size, h.bel.block⟩⟩
theorem Ro.same {w : World} {l : List ByteArray} {k : Nat} {s s' : SS} {ev q : Value} {wr : World} (h : Ro w l k s ev q wr) (e : s' = s) (h1 : ofR ss0 (l.take (k + 1)) = some s') (h2 : SzS s' (k + 1)) : Ro w l (k + 1) s' ev q wr := by
  subst e; exact ⟨h1, h2, h.us, h.rf, h.res, h.bel⟩
theorem Ro.event {w : World} {l : List ByteArray} {k : Nat} {s : SS} {ev q v : Value} {wr w1 : World} (h : Ro w l k s ev q wr) {r : ByteArray} {o : Obj} (hq : QR w1 9 (w.heap.size + 2) v (s.events ++ [r])) (hg : (wr.alloc o).grownBy w1 ev.ownBlock) (ha : ∀ b, v.ownBlock = some b → ev.ownBlock = some b ∨ wr.heap.size + 1 ≤ b)
    (h1 : ofR ss0 (l.take (k + 1)) = some { s with events := s.events ++ [r] }) (h2 : SzS { s with events := s.events ++ [r] } (k + 1)) : Ro w l (k + 1) { s with events := s.events ++ [r] } v q (w1.setCell ⟨w.heap.size + 1, 1, none⟩ v) := by
  have hlt := h.lt
  have blkA : ∀ g, g < wr.heap.size → ev.ownBlock ≠ some g → w1.heap[g]? = wr.heap[g]? := fun g hl hne => (hg.block g (by simp; omega) (fun e => hne e.symm)).trans (heap_alloc_old wr o hl)
  have b1 := (blkA _ h.rf.blk.lt h.rf.ev_ne).trans h.rf.blk
  have hvR : ∀ x, x < w.heap.size + 2 → v.ownBlock ≠ some x := fun x hx e => by have := (hq.lt e).2.1; omega
  have heR : ∀ x, x < w.heap.size + 2 → ev.ownBlock ≠ some x := fun x hx e => by have := (h.rf.evs.lt e).2.1; omega
  refine ⟨h1, h2, h.us, ⟨Blk.set b1 1 v, cell_keep hq (hvR _ (by omega)), cell_keep (h.rf.qs.keep (fun g hg2 => blkA g (h.rf.qs.lt hg2).1 (fun e => h.rf.apart g e hg2))) h.rf.q_ne, fun g hv hq2 => ?_⟩, Blk.other (show Blk w1 w.heap.size _ _ from (blkA _ h.res.lt (heR _ (by omega))).trans h.res) (p := ⟨w.heap.size + 1, 1, none⟩) (by simp) _, ?_⟩
  · rcases ha g hv with h3 | h3
    · exact h.rf.apart g h3 hq2
    · have := (h.rf.qs.lt hq2).1; omega
  · refine Below.setCell (w := w1) ?_ (p := ⟨w.heap.size + 1, 1, none⟩) (by simp) _
    exact ⟨hg.os.trans h.bel.os, hg.tape.trans h.bel.tape, hg.output.trans h.bel.output, by have h5 := hg.size; simp at h5; omega, fun g hl => (blkA g (by omega) (heR g (by omega))).trans (h.bel.block g hl)⟩
theorem Ro.wait {w : World} {l : List ByteArray} {k : Nat} {s : SS} {ev q v : Value} {wr w1 : World} (h : Ro w l k s ev q wr) {r : ByteArray} {o : Obj} (hq : QR w1 9 (w.heap.size + 2) v (s.queue ++ [r])) (hg : (wr.alloc o).grownBy w1 q.ownBlock) (ha : ∀ b, v.ownBlock = some b → q.ownBlock = some b ∨ wr.heap.size + 1 ≤ b)
    (h1 : ofR ss0 (l.take (k + 1)) = some { s with queue := s.queue ++ [r] }) (h2 : SzS { s with queue := s.queue ++ [r] } (k + 1)) : Ro w l (k + 1) { s with queue := s.queue ++ [r] } ev v (w1.setCell ⟨w.heap.size + 1, 3, none⟩ v) := by
  have hlt := h.lt
  have blkA : ∀ g, g < wr.heap.size → q.ownBlock ≠ some g → w1.heap[g]? = wr.heap[g]? := fun g hl hne => (hg.block g (by simp; omega) (fun e => hne e.symm)).trans (heap_alloc_old wr o hl)
  have b1 := (blkA _ h.rf.blk.lt h.rf.q_ne).trans h.rf.blk
  have hvR : ∀ x, x < w.heap.size + 2 → v.ownBlock ≠ some x := fun x hx e => by have := (hq.lt e).2.1; omega
  have heR : ∀ x, x < w.heap.size + 2 → q.ownBlock ≠ some x := fun x hx e => by have := (h.rf.qs.lt e).2.1; omega
  refine ⟨h1, h2, h.us, ⟨Blk.set b1 3 v, cell_keep (h.rf.evs.keep (fun g hg2 => blkA g (h.rf.evs.lt hg2).1 (fun e => h.rf.apart g hg2 e))) h.rf.ev_ne, cell_keep hq (hvR _ (by omega)), fun g he hv => ?_⟩, Blk.other (show Blk w1 w.heap.size _ _ from (blkA _ h.res.lt (heR _ (by omega))).trans h.res) (p := ⟨w.heap.size + 1, 3, none⟩) (by simp) _, ?_⟩
  · rcases ha g hv with h3 | h3
    · exact h.rf.apart g he h3
    · have := (h.rf.evs.lt he).1; omega
  · refine Below.setCell (w := w1) ?_ (p := ⟨w.heap.size + 1, 3, none⟩) (by simp) _
    exact ⟨hg.os.trans h.bel.os, hg.tape.trans h.bel.tape, hg.output.trans h.bel.output, by have h5 := hg.size; simp at h5; omega, fun g hl => (blkA g (by omega) (heR g (by omega))).trans (h.bel.block g hl)⟩
theorem qr_move {w : World} {t : TypeId} {base g off cap : Nat} {l : List ByteArray} (h : QR w t base (.slice (some ⟨g, off, none⟩) l.length cap) l) (h0 : l ≠ []) :
    QR w t base (.slice (some ⟨g, if 1 < cap then off + 1 else off, none⟩) (l.length - 1) (cap - 1)) l.tail := by
  rcases h with ⟨h1, _⟩ | ⟨g', off', cap', cur, e, hb, hh, h2, h3, h4, h5⟩
  · cases h1
  · cases e
    have hl : 0 < l.length := List.length_pos_iff.2 h0
    refine .inr ⟨g, _, cap - 1, cur, by rw [List.length_tail], hb, hh, ?_, by rw [List.length_tail]; omega, by omega, fun i hi => ?_⟩
    · split <;> omega
    · rw [List.length_tail] at hi
      rw [if_pos (by omega)]
      have := h5 (i + 1) (by omega)
      rw [show off + 1 + i = off + (i + 1) by omega, this]
      congr 2
      rw [List.getD_eq_getElem?_getD, List.getD_eq_getElem?_getD, List.getElem?_tail]
theorem Ro.done {w : World} {l : List ByteArray} {k g off cap n : Nat} {s : SS} {ev : Value} {wr : World} (h : Ro w l k s ev (.slice (some ⟨g, off, none⟩) s.queue.length cap) wr) (h0 : s.queue ≠ []) (h1 : ofR ss0 (l.take (k + 1)) = some { s with queue := s.queue.tail }) (h2 : SzS { s with queue := s.queue.tail } (k + 1)) :
    Ro w l (k + 1) { s with queue := s.queue.tail } ev (.slice (some ⟨g, if 1 < cap then off + 1 else off, none⟩) (s.queue.length - 1) (cap - 1)) ((wr.drewN n).setCell ⟨w.heap.size + 1, 3, none⟩ (.slice (some ⟨g, if 1 < cap then off + 1 else off, none⟩) (s.queue.length - 1) (cap - 1))) := by
  have hq := h.rf.q_ne
  refine ⟨h1, h2, h.us, ⟨(Blk.drewN h.rf.blk n).set 3 _, cell_keep (w := wr.drewN n) (h.rf.evs.keep (fun _ _ => rfl)) h.rf.ev_ne, cell_keep (w := wr.drewN n) ((qr_move h.rf.qs h0).keep (fun _ _ => rfl)) hq, fun x h3 h4 => h.rf.apart x h3 h4⟩, (Blk.drewN h.res n).other (p := ⟨w.heap.size + 1, 3, none⟩) (by simp) _, Below.setCell (w := wr.drewN n) ⟨h.bel.os, h.bel.tape, h.bel.output, h.bel.size, h.bel.block⟩ (p := ⟨w.heap.size + 1, 3, none⟩) (by simp) _⟩
end Go.Proofs.YtffnkomnldgcaaaGreatDoor
