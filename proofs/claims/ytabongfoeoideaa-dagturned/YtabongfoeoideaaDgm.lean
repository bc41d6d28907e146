/-
  Layer 12: a dag whose blocks are told by a set: for two dags beside each other.
-/
import Derived.Test.YtabongfoeoideaaDgl
import Derived.Test.YtabongfoeoideaaDgc
namespace Go.Pal
open Go.RowKit
set_option linter.unusedVariables false
/-- The world is as it was but in a set of blocks, and what is new. -/
theorem off_below {S : Nat → Prop} {n : Nat} {w w' : World} (h : Off S w w') (hs : ∀ g, g < n → ¬ S g) (hn : n ≤ w.heap.size) : Below n w w' := ⟨h.os, h.tape, h.output, h.size, fun g hg => h.block g (by omega) (hs g hg)⟩
theorem off_new {S : Nat → Prop} {w w1 w2 : World} (h : Off S w w1) (hb : Below w1.heap.size w1 w2) : Off S w w2 :=
  h.trans (Off.of_new hb S) (fun g _ hg => hg)
end Go.Pal
namespace Go.Proofs.Ytabongfoeoideaa
open Go.RowKit Go.Pal Go.Shelf
set_option linter.unusedVariables false
def esOn (es : List (ByteArray × List ByteArray)) (l : List En) : List (ByteArray × List ByteArray) := l.foldl (fun es c => addE es c.id c.par) es
theorem esOn_take (es : List (ByteArray × List ByteArray)) (l : List En) {k : Nat} (hk : k < l.length) : esOn es (l.take (k + 1)) = addE (esOn es (l.take k)) l[k].id l[k].par := by
  unfold esOn; rw [List.take_succ_eq_append_getElem hk, List.foldl_append]; rfl
theorem DagAt.weak {w : World} {base b' G : Nat} {m : Option Nat} {mv : ByteArray → Value} {es : List (ByteArray × List ByteArray)} (h : DagAt w base G m mv es) (hb : b' ≤ base) : DagAt w b' G m mv es :=
  ⟨h.blk, h.empty, fun b hm => ⟨(h.map b hm).1, Nat.le_trans hb (h.map b hm).2⟩, fun e he => own_base (h.each e he) hb, h.ids, Nat.le_trans hb h.gbase⟩
structure DStF (w : World) (S : Nat → Prop) (G : Nat) (es : List (ByteArray × List ByteArray)) : Prop where
  at_ : ∃ m mv, DagAt w 0 G m mv es ∧ ∀ g, DFoot G m mv es g → S g
  ok : DagOk es
theorem DSt.foot {w : World} {base G : Nat} {es : List (ByteArray × List ByteArray)} (h : DSt w base G es) : DStF w (fun g => base ≤ g ∧ g < w.heap.size) G es := by
  obtain ⟨m, mv, h1⟩ := h.at_
  exact ⟨⟨m, mv, h1.weak (Nat.zero_le _), fun g hg => ⟨(h1.lt hg).2, (h1.lt hg).1⟩⟩, h.ok⟩
theorem DStF.st {w : World} {S : Nat → Prop} {G : Nat} {es : List (ByteArray × List ByteArray)} (h : DStF w S G es) : DSt w 0 G es := by
  obtain ⟨m, mv, h1, _⟩ := h.at_
  exact ⟨⟨m, mv, h1⟩, h.ok⟩
theorem DStF.mono {w : World} {S T : Nat → Prop} {G : Nat} {es : List (ByteArray × List ByteArray)} (h : DStF w S G es) (hs : ∀ g, g < w.heap.size → S g → T g) : DStF w T G es := by
  obtain ⟨m, mv, h1, h2⟩ := h.at_
  exact ⟨⟨m, mv, h1, fun g hg => hs g (h1.lt hg).1 (h2 g hg)⟩, h.ok⟩
theorem DStF.off {w w' : World} {S T : Nat → Prop} {G : Nat} {es : List (ByteArray × List ByteArray)} (h : DStF w S G es) (ho : Off T w w') (hs : ∀ g, S g → ¬ T g) : DStF w' S G es := by
  obtain ⟨m, mv, h1, h2⟩ := h.at_
  exact ⟨⟨m, mv, h1.keep fun g hg => ho.block g (h1.lt hg).1 (hs g (h2 g hg)), h2⟩, h.ok⟩
theorem DStF.below {w w' : World} {S : Nat → Prop} {G n : Nat} {es : List (ByteArray × List ByteArray)} (h : DStF w S G es) (hb : Below n w w') (hn : w.heap.size ≤ n) : DStF w' S G es := by
  obtain ⟨m, mv, h1, h2⟩ := h.at_
  exact ⟨⟨m, mv, h1.below hb hn, h2⟩, h.ok⟩
theorem DStF.new {w w' : World} {S : Nat → Prop} {G : Nat} {es : List (ByteArray × List ByteArray)} (h : DStF w S G es) (hb : Below w.heap.size w w') : DStF w' S G es := h.below hb (Nat.le_refl _)
theorem fadd {W wr : World} {S : Nat → Prop} {G : Nat} {es : List (ByteArray × List ByteArray)} (h : DStF wr S G es) (hS : ∀ g, wr.heap.size ≤ g → S g) {c : En} (hok : EnOk W c) (hp : c.par.length ≤ 60) (hb : Below W.heap.size W wr) (wx : World) (hd : Drawn wr wx) :
    Calls Try.prog 14 #[.pointer (some ⟨G, 0, none⟩), .string c.id, .slice c.at_ c.par.length c.cap] wx fun e w' => e = .returned (.int .i64 (addC es c.id c.par)) ∧ DStF w' S G (addE es c.id c.par) ∧ Off S wr w' := by
  have hs : wx.heap.size = wr.heap.size := by rw [hd.1]
  obtain ⟨m, mv, h1, h2⟩ := (h.below (hd.below wr.heap.size) (Nat.le_refl _)).at_
  refine (dadd_any h1 (Nat.zero_le _) c.id c.cap (hok.par.row.below (hb.trans (hd.below _))) (by omega) (fun s hs => by have := hok.par.size s hs; omega)).mono ?_
  rintro e w' ⟨rfl, ⟨m', mv', h3, h4⟩, ho⟩
  refine ⟨rfl, ⟨⟨m', mv', h3, fun g hg => ?_⟩, h.ok.add (by omega)⟩, (Off.of_new (hd.below _) S).trans (ho.mono (fun g _ hg => h2 g hg)) (fun g _ hg => hg)⟩
  rcases h4 g hg with h5 | h5
  · exact h2 g h5
  · exact hS g (by omega)
theorem scopy {w : World} {base G : Nat} {es : List (ByteArray × List ByteArray)} (h : DSt w base G es) :
    Calls Try.prog 29 #[.pointer (some ⟨G, 0, none⟩)] w fun e w' => ∃ G', e = .returned (.pointer (some ⟨G', 0, none⟩)) ∧ DSt w' w.heap.size G' es ∧ Below w.heap.size w w' := by
  obtain ⟨m, mv, h1⟩ := h.at_
  refine (dcopy_at h1 h.ok).mono ?_
  rintro e w' ⟨G', m', mv', rfl, h2, h3⟩
  exact ⟨G', rfl, ⟨⟨m', mv', h2⟩, h.ok⟩, h3⟩
/-- Two rows of the same texts. -/
theorem same_rows {w : World} {b1 b2 : Nat} {l : List ByteArray} {p q : Option Addr} {n c d : Nat} (h1 : OwnL w b1 (.slice p n c) l) (h2 : OwnL w b2 (.slice q n d) l) (hl : l.length ≤ maxLen) : Calls Try.prog 18 #[.slice p n c, .slice q n d] w fun e w' => e = .returned (.bool true) ∧ Below w.heap.size w w' := by
  obtain ⟨p', c', e9, _⟩ := h1.form
  cases e9
  refine (rsame_any h1.at_ h2.at_ hl hl).mono ?_
  rintro e w' ⟨rfl, hb⟩
  exact ⟨by rw [decide_eq_true rfl], hb⟩
end Go.Proofs.Ytabongfoeoideaa
