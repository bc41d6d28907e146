/-
  Of layer 14's laws: rows of texts that are made anew, and Make of them at an older world.
-/
import Derived.Test.YtbipmeogcmmhhaaBl8
import Derived.Deep.AppendLies
import Derived.Test.YtbipmeogcmmhhaaApz
namespace Go.Pal
open Go.RowKit
theorem byte_of (ids : List ByteArray) (i : Nat) (h : i < (makeB ids).size) : (makeB ids)[i].toNat = byte8 (setB ids (sizeB (cntB ids))) i := by
  have h1 := bitsB_get (setB ids (sizeB (cntB ids))) (sizeB (cntB ids) / 8) i (by have := makeB_size ids; omega)
  have h2 : (makeB ids).data.toList.getD i 0 = (makeB ids)[i] := by rw [List.getD_eq_getElem?_getD, List.getElem?_eq_getElem (by simpa using h)]; rfl
  rw [← h2]; exact h1
/-- Bits of the same size, of which one's ids are among the other one's. -/
theorem and_of (x y : List ByteArray) (hs : (makeB x).size = (makeB y).size) (hin : ∀ s ∈ x, s ∈ y) (i : Nat) (h : i < (makeB x).size) (h' : i < (makeB y).size) : bits .and .u8 ((makeB x)[i].toNat : Int) ((makeB y)[i].toNat : Int) = ((makeB x)[i].toNat : Int) := by
  have hx := makeB_size x
  have hy := makeB_size y
  have e : sizeB (cntB x) = sizeB (cntB y) := by omega
  rw [byte_of x i h, byte_of y i h', (bits_nat .u8 8 (by decide) (fun n h0 h1 => by rw [IntKind.wrap_u8]; omega) _ _ (byte8_lt _ _) (byte8_lt _ _)).1, e]
  congr 1
  refine byte8_sub (fun q hq => ?_) i
  obtain ⟨s, hs, hc⟩ := List.any_eq_true.1 hq
  exact List.any_eq_true.2 ⟨s, hin s hs, hc⟩
/-- As long as the size is the same, only which ids there are counts. -/
theorem same_of (x y : List ByteArray) (hs : (makeB x).size = (makeB y).size) (hin : ∀ s, s ∈ x ↔ s ∈ y) : makeB x = makeB y := by
  have hx := makeB_size x
  have hy := makeB_size y
  have e : sizeB (cntB x) = sizeB (cntB y) := by omega
  unfold makeB
  rw [e]
  congr 1
  funext q
  unfold setB
  rw [Bool.eq_iff_iff, List.any_eq_true, List.any_eq_true]
  exact ⟨fun ⟨s, h1, h2⟩ => ⟨s, (hin s).1 h1, h2⟩, fun ⟨s, h1, h2⟩ => ⟨s, (hin s).2 h1, h2⟩⟩
theorem cntB_append (x y : List ByteArray) : cntB (x ++ y) = cntB x + cntB y := by
  unfold cntB; rw [List.filter_append, List.length_append]
theorem makeB_rot (l : List ByteArray) (k : Nat) : makeB (l.drop k ++ l.take k) = makeB l := by
  have hc : cntB (l.drop k ++ l.take k) = cntB l := by
    rw [cntB_append, Nat.add_comm, ← cntB_append, List.take_append_drop]
  have hx := makeB_size (l.drop k ++ l.take k)
  have hy := makeB_size l
  rw [hc] at hx
  refine same_of _ _ (by omega) (fun s => ?_)
  rw [List.mem_append, Or.comm, ← List.mem_append, List.take_append_drop]
theorem strRow_take {w : World} {b off : Nat} {l : List ByteArray} (h : StrRow w (some ⟨b, off, none⟩) l) (k : Nat) : StrRow w (some ⟨b, off, none⟩) (l.take k) := by
  rcases h with h | ⟨b', off', e, hb, hc⟩
  · exact .inl (by rw [h]; simp)
  · cases e
    refine .inr ⟨b, off, rfl, hb, fun i hi => ?_⟩
    have h1 : i < k ∧ i < l.length := by rw [List.length_take] at hi; omega
    rw [hc i h1.2, List.getD_eq_getElem?_getD, List.getD_eq_getElem?_getD, List.getElem?_take, if_pos h1.1]
theorem strRow_drop {w : World} {b off : Nat} {l : List ByteArray} (h : StrRow w (some ⟨b, off, none⟩) l) (k : Nat) : StrRow w (some ⟨b, off + k, none⟩) (l.drop k) := by
  rcases h with h | ⟨b', off', e, hb, hc⟩
  · exact .inl (by rw [h]; simp)
  · cases e
    refine .inr ⟨b, off + k, rfl, hb, fun i hi => ?_⟩
    have h1 : k + i < l.length := by rw [List.length_drop] at hi; omega
    rw [Nat.add_assoc, hc _ h1, List.getD_eq_getElem?_getD, List.getD_eq_getElem?_getD, List.getElem?_drop]
/-- A row of n texts. -/
def RowN (w : World) (a : Option Addr) (n : Nat) (l : List ByteArray) : Prop := l.length = n ∧ StrRow w a l
end Go.Pal
namespace Go.Proofs.Ytbipmeogcmmhhaa
open Go.RowKit Go.Pal
set_option linter.unusedVariables false
theorem make_at {w W : World} {a : Option Addr} {n cap : Nat} {ids : List ByteArray} (h : RowN w a n ids) (hl : ids.length ≤ 1000000) (hb : Below w.heap.size w W) :
    Calls Try.prog 43 #[.slice a n cap] W fun e w' => e = .returned (.string (makeB ids)) ∧ Below w.heap.size w w' := by
  obtain ⟨rfl, hr⟩ := h
  exact (make_any (hr.below hb) hl).mono fun e w' ⟨h1, h2⟩ => ⟨h1, hb.trans (h2.mono hb.size)⟩
/-- A row of n texts of which Make makes M. -/
def MakesTo (w : World) (a : Option Addr) (n : Nat) (M : ByteArray) : Prop := ∃ ids, RowN w a n ids ∧ ids.length ≤ 1000000 ∧ makeB ids = M
theorem make_to {w W : World} {a : Option Addr} {n cap : Nat} {M : ByteArray} (h : MakesTo w a n M) (hb : Below w.heap.size w W) :
    Calls Try.prog 43 #[.slice a n cap] W fun e w' => e = .returned (.string M) ∧ Below w.heap.size w w' := by
  obtain ⟨ids, h1, h2, rfl⟩ := h
  exact make_at h1 h2 hb
/-- An own row of texts is a row of texts. -/
theorem own_row {w : World} {base : Nat} {g n cap : Nat} {l : List ByteArray} (h : w.ownsRow base 9 1 (.slice (some ⟨g, 0, none⟩) n cap) n (l.map Value.string)) (hn : l.length = n) : RowN w (some ⟨g, 0, none⟩) n l := by
  subst hn
  refine ⟨rfl, .inr ⟨g, 0, rfl, (h.lt g rfl).2, fun i hi => ?_⟩⟩
  rw [Nat.zero_add, h.cellAt i (by omega)]
  simp [hi]
/-- A literal of no texts is an own row of none. -/
theorem own_empty {w : World} {base : Nat} (hb : base ≤ w.heap.size) : (w.alloc (.cells #[] 9)).ownsRow base 9 1 (.slice (some ⟨w.heap.size, 0, none⟩) 0 0) 0 [] :=
  ⟨rfl, .inr ⟨w.heap.size, 0, #[], rfl, hb, heap_alloc_new w _, Nat.le_refl _, Nat.zero_le _, rfl, rfl⟩⟩
theorem own_at {w w1 : World} {base n : Nat} {t : TypeId} {size : Nat} {v : Value} {l : List Value} (h : w.ownsRow base t size v n l) (hb : Below w.heap.size w w1) : w1.ownsRow base t size v n l := own_kept h (fun g hg => hb.block g (own_lt h hg).1)
/-- The cells of a row that is handed over. -/
theorem row_news {w : World} {b off : Nat} {l : List ByteArray} (h : StrRow w (some ⟨b, off, none⟩) l) : ∀ j u, (l.map Value.string)[j]? = some u → w.cell? ((⟨b, off, none⟩ : Addr).add j) = some u := by
  intro j u hu
  rw [List.getElem?_map, Option.map_eq_some_iff] at hu
  obtain ⟨s, hs, rfl⟩ := hu
  have hj := (List.getElem?_eq_some_iff.1 hs).1
  rcases h with h | ⟨b', off', e, _, hc⟩
  · rw [h] at hj; simp at hj
  · cases e
    rw [Go.WideShapes.add_plain, hc j hj, List.getD_eq_getElem?_getD, hs]; rfl
theorem all_strs (l : List ByteArray) : ∀ u ∈ l.map Value.string, u.oneCell' = true := by
  intro u hu
  obtain ⟨s, _, rfl⟩ := List.mem_map.1 hu
  rfl
end Go.Proofs.Ytbipmeogcmmhhaa
