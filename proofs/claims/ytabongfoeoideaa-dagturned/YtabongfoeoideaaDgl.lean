/-
  Layer 12: the entries that came in, added one by one.
-/
import Derived.Test.YtabongfoeoideaaDgk
import Derived.Test.YtabongfoeoideaaGr
namespace Go.Pal
open Go.RowKit
theorem addE_size {es : List (ByteArray × List ByteArray)} {id : ByteArray} {ps : List ByteArray} : (addE es id ps).length ≤ es.length + 1 := by unfold addE; split <;> simp
end Go.Pal
namespace Go.Proofs.Ytabongfoeoideaa
open Go.RowKit Go.Pal Go.Shelf
set_option linter.unusedVariables false
/-- The same world, but for what was drawn. -/
def Drawn (w wx : World) : Prop := wx.heap = w.heap ∧ wx.os = w.os ∧ wx.tape = w.tape ∧ wx.output = w.output
theorem Drawn.below {w wx : World} (h : Drawn w wx) (n : Nat) : Below n w wx := ⟨h.2.1, h.2.2.1, h.2.2.2, by rw [h.1]; exact Nat.le_refl _, fun g _ => by rw [h.1]⟩
def esOf (l : List En) : List (ByteArray × List ByteArray) := l.foldl (fun es c => addE es c.id c.par) []
theorem esOf_take (l : List En) {k : Nat} (hk : k < l.length) : esOf (l.take (k + 1)) = addE (esOf (l.take k)) l[k].id l[k].par := by
  unfold esOf; rw [List.take_succ_eq_append_getElem hk, List.foldl_append]; rfl
theorem add_at {W wr : World} {B G : Nat} {es : List (ByteArray × List ByteArray)} (h : DSt wr B G es) {c : En} (hok : EnOk W c) (hp : c.par.length ≤ 60) (hb : Below W.heap.size W wr) (hB : B ≤ wr.heap.size) (wx : World) (hd : Drawn wr wx) :
    Calls Try.prog 14 #[.pointer (some ⟨G, 0, none⟩), .string c.id, .slice c.at_ c.par.length c.cap] wx fun e w' => e = .returned (.int .i64 (addC es c.id c.par)) ∧ DSt w' B G (addE es c.id c.par) ∧ Below B wr w' := by
  have hs : wx.heap.size = wr.heap.size := by rw [hd.1]
  refine (sadd (h.below (hd.below wr.heap.size) (Nat.le_refl _)) (by omega) c.id c.cap (hok.par.row.below (hb.trans (hd.below _))) (by omega) (fun s hs => by have := hok.par.size s hs; omega)).mono ?_
  rintro e w' ⟨rfl, h1, h2⟩
  exact ⟨rfl, h1, (hd.below B).trans h2⟩
theorem row_cell12 {w : World} {base n cap : Nat} {p : Option Addr} {l : List ByteArray} (h : OwnL w base (.slice p n cap) l) (hn : 0 < l.length) : ∃ g, p = some ⟨g, 0, none⟩ ∧ g < w.heap.size ∧ ∀ k (hk : k < l.length), w.cell? ⟨g, k, none⟩ = some (.string l[k]) := by
  obtain ⟨p', cap', e, _, _, hp⟩ := rowS_form h
  cases e
  obtain ⟨g, rfl⟩ := hp hn
  refine ⟨g, rfl, (own_lt h (g := g) rfl).1, fun k hk => ?_⟩
  rw [(ownS_cell h k (by omega)).1, List.getElem?_map, List.getElem?_eq_getElem hk]; rfl
end Go.Proofs.Ytabongfoeoideaa
