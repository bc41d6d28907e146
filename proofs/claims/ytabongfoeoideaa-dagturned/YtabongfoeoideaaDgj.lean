/-
  Layer 12: a dag that is used on: its calls in short; the law's awake.
-/
import Derived.Test.YtabongfoeoideaaDgb
import Derived.Test.YtabongfoeoideaaDgi
import Derived.Test.YtabongfoeoideaaDga
import Derived.Test.YtabongfoeoideaaRf0
namespace Go.Pal
open Go.RowKit
theorem below_off {S : Nat → Prop} {n : Nat} {w w' : World} (h : Off S w w') (hs : ∀ g, S g → n ≤ g) (hn : n ≤ w.heap.size) : Below n w w' := h.below hs hn
theorem par_size {es : List (ByteArray × List ByteArray)} (h : DagOk es) {s x : ByteArray} (hx : x ∈ parE es s) : x.size ≤ 281474976710656 := by have := (h.there hx).2.2; omega
def headsL (es : List (ByteArray × List ByteArray)) : List ByteArray := riseL (headE es)
end Go.Pal
namespace Go.Proofs.Ytabongfoeoideaa
open Go.RowKit Go.Pal Go.Shelf
set_option linter.unusedVariables false
/-- A dag that is used on. -/
structure DSt (w : World) (base G : Nat) (es : List (ByteArray × List ByteArray)) : Prop where
  at_ : ∃ m mv, DagAt w base G m mv es
  ok : DagOk es
theorem DSt.below {w w' : World} {base G : Nat} {es : List (ByteArray × List ByteArray)} (h : DSt w base G es) {n : Nat} (hb : Below n w w') (hn : w.heap.size ≤ n) : DSt w' base G es := by
  obtain ⟨m, mv, h1⟩ := h.at_
  exact ⟨⟨m, mv, h1.below hb hn⟩, h.ok⟩
theorem DSt.new {w w' : World} {base G : Nat} {es : List (ByteArray × List ByteArray)} (h : DSt w base G es) (hb : Below w.heap.size w w') : DSt w' base G es := h.below hb (Nat.le_refl _)
theorem DSt.ids {w : World} {base G : Nat} {es : List (ByteArray × List ByteArray)} (h : DSt w base G es) : (es.map Prod.fst).Nodup := by
  obtain ⟨m, mv, h1⟩ := h.at_
  exact h1.ids
theorem snew (w : World) : Calls Try.prog 12 #[] w fun e w' => e = .returned (.pointer (some ⟨w.heap.size, 0, none⟩)) ∧ DSt w' w.heap.size w.heap.size [] ∧ Below w.heap.size w w' := by
  refine (dnew_any w).mono ?_
  rintro e w' ⟨rfl, h, hb⟩
  exact ⟨rfl, ⟨⟨_, _, h (fun _ => .slice none 0 0)⟩, DagOk.nil⟩, hb⟩
theorem sadd {w : World} {base G : Nat} {es : List (ByteArray × List ByteArray)} (h : DSt w base G es) (hbase : base ≤ w.heap.size) (id : ByteArray) {a : Option Addr} {ps : List ByteArray} (cap : Nat) (hr : StrRow w a ps) (hlen : ps.length ≤ 1000000) (hps : ∀ s ∈ ps, s.size ≤ 281474976710656) :
    Calls Try.prog 14 #[.pointer (some ⟨G, 0, none⟩), .string id, .slice a ps.length cap] w fun e w' => e = .returned (.int .i64 (addC es id ps)) ∧ DSt w' base G (addE es id ps) ∧ Below base w w' := by
  obtain ⟨m, mv, h1⟩ := h.at_
  refine (dadd_any h1 hbase id cap hr hlen hps).mono ?_
  rintro e w' ⟨rfl, ⟨m', mv', h2, _⟩, ho⟩
  exact ⟨rfl, ⟨⟨m', mv', h2⟩, h.ok.add hlen⟩, ho.below (fun g hg => (h1.lt hg).2) hbase⟩
theorem shas {w : World} {base G : Nat} {es : List (ByteArray × List ByteArray)} (h : DSt w base G es) {s : ByteArray} (hs : s.size ≤ maxLen) : Calls Try.prog 15 #[.pointer (some ⟨G, 0, none⟩), .string s] w fun e w' => e = .returned (.bool (lookE es s).isSome) ∧ w' = w := by
  obtain ⟨m, mv, h1⟩ := h.at_
  exact dhas_at h1 hs
theorem slen {w : World} {base G : Nat} {es : List (ByteArray × List ByteArray)} (h : DSt w base G es) : Calls Try.prog 17 #[.pointer (some ⟨G, 0, none⟩)] w fun e w' => e = .returned (.int .i64 (es.length : Int)) ∧ w' = w := by
  obtain ⟨m, mv, h1⟩ := h.at_
  exact dlen_at h1
/-- A row of texts of one's own. -/
def OwnL (w : World) (base : Nat) (v : Value) (l : List ByteArray) : Prop := w.ownsRow base 9 1 v l.length (l.map Value.string)
theorem OwnL.form {w : World} {base : Nat} {v : Value} {l : List ByteArray} (h : OwnL w base v l) : ∃ p cap, v = .slice p l.length cap ∧ StrRow w p l := own_texts h
theorem OwnL.below {w w' : World} {base n : Nat} {v : Value} {l : List ByteArray} (h : OwnL w base v l) (hb : Below n w w') (hn : w.heap.size ≤ n) : OwnL w' base v l := own_kept h (fun g hg => hb.block g (Nat.lt_of_lt_of_le (own_lt h hg).1 hn))
theorem OwnL.at_ {w : World} {base n : Nat} {p : Option Addr} {cap : Nat} {l : List ByteArray} (h : OwnL w base (.slice p n cap) l) : StrRow w p l := by
  obtain ⟨p', cap', e, hr⟩ := h.form
  cases e; exact hr
theorem OwnL.base {w : World} {b b' : Nat} {v : Value} {l : List ByteArray} (h : OwnL w b v l) (hb : b' ≤ b) : OwnL w b' v l := own_base h hb
theorem sparents {w : World} {base G : Nat} {es : List (ByteArray × List ByteArray)} (h : DSt w base G es) {s : ByteArray} (hs : s.size ≤ maxLen) :
    Calls Try.prog 19 #[.pointer (some ⟨G, 0, none⟩), .string s] w fun e w' => ∃ v, e = .returned v ∧ OwnL w' w.heap.size v (parE es s) ∧ Below w.heap.size w w' := by
  obtain ⟨m, mv, h1⟩ := h.at_
  exact dparents_at h1 hs (h.ok.parLen s) (fun x hx => par_size h.ok hx)
theorem sheads {w : World} {base G : Nat} {es : List (ByteArray × List ByteArray)} (h : DSt w base G es) :
    Calls Try.prog 23 #[.pointer (some ⟨G, 0, none⟩)] w fun e w' => ∃ v, e = .returned v ∧ OwnL w' w.heap.size v (headsL es) ∧ Below w.heap.size w w' := by
  obtain ⟨m, mv, h1⟩ := h.at_
  exact dheads_any (.inr ⟨G, rfl, h1⟩) h.ok
theorem sorder {w : World} {base G : Nat} {es : List (ByteArray × List ByteArray)} (h : DSt w base G es) :
    Calls Try.prog 25 #[.pointer (some ⟨G, 0, none⟩)] w fun e w' => ∃ v, e = .returned v ∧ OwnL w' w.heap.size v (orderL es) ∧ Below w.heap.size w w' := by
  obtain ⟨m, mv, h1⟩ := h.at_
  exact dorder_any (.inr ⟨G, rfl, h1⟩) h.ok
theorem spast {w : World} {base G : Nat} {es : List (ByteArray × List ByteArray)} (h : DSt w base G es) {s : ByteArray} (hs : s.size ≤ maxLen) :
    Calls Try.prog 21 #[.pointer (some ⟨G, 0, none⟩), .string s] w fun e w' => ∃ v, e = .returned v ∧ OwnL w' w.heap.size v (riseL (pastL es s)) ∧ Below w.heap.size w w' := by
  obtain ⟨m, mv, h1⟩ := h.at_
  exact dpast_at (.inr ⟨G, rfl, h1⟩) h.ok hs
theorem sahead {w : World} {base G : Nat} {es : List (ByteArray × List ByteArray)} (h : DSt w base G es) {a b : ByteArray} (ha : a.size ≤ maxLen) (hb : b.size ≤ maxLen) :
    Calls Try.prog 27 #[.pointer (some ⟨G, 0, none⟩), .string a, .string b] w fun e w' => e = .returned (.bool (memB (pastL es b) a)) ∧ Below w.heap.size w w' := by
  obtain ⟨m, mv, h1⟩ := h.at_
  exact dahead_at (.inr ⟨G, rfl, h1⟩) h.ok ha hb
/-- Texts that are laid in a new block. -/
theorem new_row (w : World) (l : List ByteArray) : StrRow (w.alloc (.cells (l.map Value.string).toArray 9)) (some ⟨w.heap.size, 0, none⟩) l := by
  refine .inr ⟨w.heap.size, 0, rfl, by simp, fun i hi => ?_⟩
  have := (Blk.new w 9 (l.map Value.string)).cell i
  rw [Nat.zero_add, this, List.getElem?_map, List.getElem?_eq_getElem hi, List.getD_eq_getElem?_getD, List.getElem?_eq_getElem hi]; rfl
def bD0 : ByteArray := ⟨#[97]⟩
def bD1 : ByteArray := ⟨#[98]⟩
def bD2 : ByteArray := ⟨#[99]⟩
def bD3 : ByteArray := ⟨#[100]⟩
def E1 : List (ByteArray × List ByteArray) := [entOf bD0 []]
def E2 : List (ByteArray × List ByteArray) := [entOf bD0 [], entOf bD1 [bD0]]
def E3 : List (ByteArray × List ByteArray) := [entOf bD0 [], entOf bD1 [bD0], entOf bD2 [bD0]]
def E4 : List (ByteArray × List ByteArray) := [entOf bD0 [], entOf bD1 [bD0], entOf bD2 [bD0], entOf bD3 [bD1, bD2]]
theorem c1 : addC [] bD0 [] = 0 ∧ addE [] bD0 [] = E1 := by decide
theorem c2 : addC E1 bD1 [bD0] = 0 ∧ addE E1 bD1 [bD0] = E2 := by decide
theorem c3 : addC E2 bD2 [bD0] = 0 ∧ addE E2 bD2 [bD0] = E3 := by decide
theorem c4 : addC E3 bD3 [bD1, bD2] = 0 ∧ addE E3 bD3 [bD1, bD2] = E4 := by decide
theorem t1 : headsL E4 = [bD3] := by decide
theorem t2 : orderL E4 = [bD0, bD1, bD2, bD3] := by decide
theorem t3 : riseL (pastL E4 bD3) = [bD0, bD1, bD2] := by decide
end Go.Proofs.Ytabongfoeoideaa
