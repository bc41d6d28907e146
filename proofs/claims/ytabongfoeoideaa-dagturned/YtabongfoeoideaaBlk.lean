/-
  A block of cells, written out: what is read of it, and what a store makes of it. No program in sight.
-/
import Derived.WalkKit
import Derived.Lib.BufferOwn
import Derived.Lib.Hide
import Derived.Deep.WholeRow
namespace Go.Pal
open Go.RowKit

/-- Block B is a row of just these cells. -/
def Blk (w : World) (B : Nat) (t : TypeId) (l : List Value) : Prop := w.heap[B]? = some (.cells l.toArray t (0, 0))

theorem Blk.lt {w : World} {B : Nat} {t : TypeId} {l : List Value} (h : Blk w B t l) : B < w.heap.size := by
  rcases Nat.lt_or_ge B w.heap.size with h1 | h1
  · exact h1
  · unfold Blk at h; simp [Array.getElem?_eq_none h1] at h

theorem Blk.cell {w : World} {B : Nat} {t : TypeId} {l : List Value} (h : Blk w B t l) (i : Nat) : w.cell? ⟨B, i, none⟩ = l[i]? := by
  unfold Blk at h
  simp [World.cell?, h]

theorem Blk.frozen {w : World} {B : Nat} {t : TypeId} {l : List Value} (h : Blk w B t l) (i : Nat) : w.frozen? ⟨B, i, none⟩ = false := by
  unfold Blk at h
  simp [World.frozen?, h]

theorem Blk.new (w : World) (t : TypeId) (l : List Value) : Blk (w.alloc (.cells l.toArray t)) w.heap.size t l := by
  unfold Blk
  show (w.heap.push _)[w.heap.size]? = _
  simp

theorem Blk.new' (w : World) (t : TypeId) (l : List Value) {n : Nat} (h : n = w.heap.size) : Blk (w.alloc (.cells l.toArray t)) n t l := by
  subst h; exact Blk.new w t l

theorem Blk.alloc {w : World} {B : Nat} {t : TypeId} {l : List Value} (h : Blk w B t l) (o : Obj) : Blk (w.alloc o) B t l :=
  (Below.heap_alloc w o B h.lt).trans h

theorem Blk.drew {w : World} {B : Nat} {t : TypeId} {l : List Value} (h : Blk w B t l) : Blk w.drew B t l := h
theorem Blk.drewN {w : World} {B : Nat} {t : TypeId} {l : List Value} (h : Blk w B t l) (n : Nat) : Blk (w.drewN n) B t l := h

theorem Blk.set {w : World} {B : Nat} {t : TypeId} {l : List Value} (h : Blk w B t l) (i : Nat) (v : Value) : Blk (w.setCell ⟨B, i, none⟩ v) B t (l.set i v) := by
  unfold Blk at h ⊢
  simp [World.setCell, Array.getElem?_modify, h]

theorem Blk.other {w : World} {B : Nat} {t : TypeId} {l : List Value} (h : Blk w B t l) {p : Addr} (hp : B ≠ p.block) (v : Value) : Blk (w.setCell p v) B t l :=
  (Below.heap_setCell w p v B hp).trans h

theorem Blk.below {w w' : World} {B n : Nat} {t : TypeId} {l : List Value} (h : Blk w B t l) (hb : Below n w w') (hn : B < n) : Blk w' B t l := (hb.block B hn).trans h

theorem Blk.grown {w w' : World} {B : Nat} {row : Option Nat} {t : TypeId} {l : List Value} (h : Blk w B t l) (hg : w.grownBy w' row) (hn : some B ≠ row) : Blk w' B t l := (hg.block B h.lt hn).trans h

theorem Blk.row {w : World} {B : Nat} {t : TypeId} {l : List Value} (h : Blk w B t l) (l' : List Value) : Blk (w.setRow B l'.toArray) B t l' := setRow_heap w B _ _ t (0, 0) h
theorem Blk.row_other {w : World} {B C : Nat} {t : TypeId} {l : List Value} (h : Blk w B t l) (hn : B ≠ C) (cs : Array Value) : Blk (w.setRow C cs) B t l := (setRow_other w C B cs hn).trans h
theorem below_row {B n : Nat} {w w' : World} (h : Below n w w') (hn : n ≤ B) (cs : Array Value) : Below n w (w'.setRow B cs) :=
  h.trans ⟨rfl, rfl, rfl, by simp, fun k hk => setRow_other _ _ _ _ (by omega)⟩
theorem grown_row {w w' : World} {B : Nat} (h : w.grownBy w' (some B)) (cs : Array Value) : w.grownBy (w'.setRow B cs) (some B) :=
  ⟨h.os, h.tape, h.output, by simpa using h.size, fun k hk hne => (setRow_other _ _ _ _ (fun e => hne (by rw [e]))).trans (h.block k hk hne)⟩

/-- A whole array stored into the block that was made last. -/
theorem wpList_store_made {P : Program} {ops : Array Oper} {rest : List Oper} {o : Oper} {a : Act} {w : World} {Q : Exit → Act → World → Prop} (hgd : o.guard = none) (ty : TypeId) (x y : Operand) (ho : o.op = .store ty x y)
    (old cells : Array Value) (t : TypeId) (hx : a.eval x = .pointer (some ⟨w.heap.size, 0, none⟩)) (hy : a.eval y = .agg cells)
    (hi : (P.info? ty).map (·.size) = some cells.size) (hold : old.size = cells.size) (h1 : cells.all (·.oneCell') = true)
    (h : wpList P ops Q rest (a.put o.dst undef) (w.alloc (.cells cells t))) : wpList P ops Q (o :: rest) a (w.alloc (.cells old t)) := by
  refine wpList_store_row hgd ty x y ho w.heap.size cells hx hy t old (heap_alloc_new w _) hi hold h1 ?_
  rw [World.setRow_alloc_new]; exact h

/-- Nothing but draws. -/
def Same (w w' : World) : Prop := w'.heap = w.heap ∧ w'.os = w.os ∧ w'.tape = w.tape ∧ w'.output = w.output
theorem Same.refl (w : World) : Same w w := ⟨rfl, rfl, rfl, rfl⟩
theorem Same.drewN {w w' : World} (h : Same w w') (n : Nat) : Same w (w'.drewN n) := h
theorem Same.drew {w w' : World} (h : Same w w') : Same w w'.drew := h
theorem Same.cell {w w' : World} (h : Same w w') (a : Addr) : w'.cell? a = w.cell? a := World.cell?_of_block (by rw [h.1])
theorem Same.frozen {w w' : World} (h : Same w w') (a : Addr) : w'.frozen? a = w.frozen? a := World.frozen?_of_block (by rw [h.1])
theorem Same.blk {w w' : World} (h : Same w w') {B : Nat} {t : TypeId} {l : List Value} (hb : Blk w B t l) : Blk w' B t l := by unfold Blk; rw [h.1]; exact hb
theorem Same.below {w w' : World} (h : Same w w') (n : Nat) : Below n w w' := ⟨h.2.1, h.2.2.1, h.2.2.2, by rw [h.1]; exact Nat.le_refl _, fun _ _ => by rw [h.1]⟩
theorem Same.grown {w w' : World} (h : Same w w') (row : Option Nat) : w.grownBy w' row := ⟨h.2.1, h.2.2.1, h.2.2.2, by rw [h.1]; exact Nat.le_refl _, fun _ _ _ => by rw [h.1]⟩

theorem grown_drew {w w' : World} {row : Option Nat} (h : w.grownBy w' row) : w.grownBy w'.drew row := ⟨h.os, h.tape, h.output, h.size, h.block⟩
theorem grown_drewN {w w' : World} {row : Option Nat} (h : w.grownBy w' row) (n : Nat) : w.grownBy (w'.drewN n) row := ⟨h.os, h.tape, h.output, h.size, h.block⟩

theorem blk8 {w : World} {S : Nat} {t : TypeId} {x0 x1 x2 x3 x4 x5 x6 x7 : Value} (h : Blk w S t [x0, x1, x2, x3, x4, x5, x6, x7]) (y0 y1 y2 y3 y4 y5 y6 y7 : Value) : Blk ((((((((w.setCell ⟨S, 0, none⟩ y0).setCell ⟨S, 1, none⟩ y1).setCell ⟨S, 2, none⟩ y2).setCell ⟨S, 3, none⟩ y3).setCell ⟨S, 4, none⟩ y4).setCell ⟨S, 5, none⟩ y5).setCell ⟨S, 6, none⟩ y6).setCell ⟨S, 7, none⟩ y7) S t [y0, y1, y2, y3, y4, y5, y6, y7] := ((((((((h.set 0 y0).set 1 y1).set 2 y2).set 3 y3).set 4 y4).set 5 y5).set 6 y6).set 7 y7)

/-- The first k of some cells, and behind them the old ones. -/
def partL (new old : List Value) (k : Nat) : List Value := new.take k ++ old.drop k
theorem partL_get (new old : List Value) (k : Nat) (h : k ≤ new.length) : (partL new old k)[k]? = old[k]? := by
  have hl : (new.take k).length = k := by rw [List.length_take]; omega
  unfold partL
  rw [List.getElem?_append_right (by omega), hl, List.getElem?_drop]
  simp
theorem partL_set (new old : List Value) (k : Nat) (h : k < new.length) (ho : k < old.length) : (partL new old k).set k new[k] = partL new old (k + 1) := by
  have hl : (new.take k).length = k := by rw [List.length_take]; omega
  unfold partL
  rw [List.drop_eq_getElem_cons ho, List.take_succ_eq_append_getElem h, List.set_append_right _ _ (by omega), hl, List.append_assoc]
  simp only [Nat.sub_self, List.set_cons_zero, List.singleton_append]
theorem partL_zero (new old : List Value) : partL new old 0 = old := by simp [partL]
theorem partL_all (new old : List Value) (h : new.length = old.length) : partL new old new.length = new := by
  unfold partL; rw [List.take_length, List.drop_of_length_le (by omega), List.append_nil]

/-- The first k of some cells, and behind them what was there first. -/
def fill (vs : List Value) (n : Nat) (z : Value) (k : Nat) : List Value := vs.take k ++ List.replicate (n - k) z

theorem fill_get (vs : List Value) (n : Nat) (z : Value) (k : Nat) (h : k ≤ vs.length) (hn : k < n) : (fill vs n z k)[k]? = some z := by
  have hl : (vs.take k).length = k := by rw [List.length_take]; omega
  unfold fill
  rw [List.getElem?_append_right (by omega), hl, List.getElem?_replicate]
  simp; omega
theorem fill_later (vs : List Value) (n : Nat) (z : Value) (k i : Nat) (h : k ≤ vs.length) (hi : k ≤ i) (hn : i < n) : (fill vs n z k)[i]? = some z := by
  have hl : (vs.take k).length = k := by rw [List.length_take]; omega
  unfold fill
  rw [List.getElem?_append_right (by omega), hl, List.getElem?_replicate, if_pos (by omega)]
theorem fill_set (vs : List Value) (n : Nat) (z : Value) (k : Nat) (h : k < vs.length) (hn : k < n) : (fill vs n z k).set k vs[k] = fill vs n z (k + 1) := by
  have hl : (vs.take k).length = k := by rw [List.length_take]; omega
  have e : List.replicate (n - k) z = z :: List.replicate (n - (k + 1)) z := by
    rw [show n - k = (n - (k + 1)) + 1 by omega, List.replicate_succ]
  unfold fill
  rw [e, List.take_succ_eq_append_getElem h, List.set_append_right _ _ (by omega), hl, List.append_assoc]
  simp only [Nat.sub_self, List.set_cons_zero, List.singleton_append]
theorem fill_old (vs : List Value) (n : Nat) (z : Value) (k i : Nat) (h : i < k) (hk : k ≤ vs.length) : (fill vs n z k)[i]? = vs[i]? := by
  have hl : (vs.take k).length = k := by rw [List.length_take]; omega
  unfold fill
  rw [List.getElem?_append_left (by omega), List.getElem?_take, if_pos h]
theorem fill_all (vs : List Value) (z : Value) : fill vs vs.length z vs.length = vs := by
  unfold fill; simp
theorem fill_length (vs : List Value) (n : Nat) (z : Value) (k : Nat) (h : k ≤ vs.length) (hn : k ≤ n) : (fill vs n z k).length = n := by
  unfold fill; simp; omega

end Go.Pal
