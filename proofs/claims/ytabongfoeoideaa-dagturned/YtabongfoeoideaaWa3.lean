/-
  Contracts of package wait: Come.
-/
import Derived.Test.YtabongfoeoideaaWa2
namespace Go.Pal
open Go.RowKit
/-- An id has come: for what each still waits. -/
def Wt.came (s : ByteArray) (x : Wt) : Wt := { x with miss := strike x.miss s }
def stays (x : Wt) : Bool := !x.miss.isEmpty
def stayW (s : ByteArray) (l : List Wt) : List Wt := (l.map (Wt.came s)).filter stays
def leftW (s : ByteArray) (l : List Wt) : List Wt := (l.map (Wt.came s)).filter (fun x => !stays x)
def cellsG : List Wt → List Value
  | [] => []
  | f :: r => [.string f.id, .string f.text] ++ cellsG r
theorem cellsG_length : ∀ l : List Wt, (cellsG l).length = l.length * 2
  | [] => rfl
  | f :: r => by simp only [cellsG, List.length_append, List.length_cons, List.length_nil, cellsG_length r]; omega
theorem cellsG_append : ∀ l m : List Wt, cellsG (l ++ m) = cellsG l ++ cellsG m
  | [], m => rfl
  | f :: r, m => by simp [cellsG, cellsG_append r m]
theorem cellsG_get : ∀ (l : List Wt) (i : Nat) (hi : i < l.length), (cellsG l)[i * 2]? = some (.string l[i].id) ∧ (cellsG l)[i * 2 + 1]? = some (.string l[i].text)
  | f :: r, 0, _ => by simp [cellsG]
  | f :: r, i + 1, hi => by
    simp only [cellsG]
    rw [List.getElem?_append_right (by simp; omega), List.getElem?_append_right (by simp; omega)]
    have := cellsG_get r i (by simpa using hi)
    rw [show (i + 1) * 2 - [Value.string f.id, Value.string f.text].length = i * 2 by simp; omega, show (i + 1) * 2 + 1 - [Value.string f.id, Value.string f.text].length = i * 2 + 1 by simp; omega]
    simpa using this
theorem stayW_snoc (s : ByteArray) (l : List Wt) (x : Wt) : stayW s (l ++ [x]) = stayW s l ++ if stays (x.came s) then [x.came s] else [] := by
  unfold stayW; simp only [List.map_append, List.map_cons, List.map_nil, List.filter_append]
  congr 1; cases h : stays (x.came s) <;> simp [h]
theorem leftW_snoc (s : ByteArray) (l : List Wt) (x : Wt) : leftW s (l ++ [x]) = leftW s l ++ if stays (x.came s) then [] else [x.came s] := by
  unfold leftW; simp only [List.map_append, List.map_cons, List.map_nil, List.filter_append]
  congr 1; cases h : stays (x.came s) <;> simp [h]
theorem stayW_le (s : ByteArray) (l : List Wt) : (stayW s l).length ≤ l.length := by
  unfold stayW; have := List.length_filter_le stays (l.map (Wt.came s)); simpa using this
theorem leftW_le (s : ByteArray) (l : List Wt) : (leftW s l).length ≤ l.length := by
  unfold leftW; have := List.length_filter_le (fun x => !stays x) (l.map (Wt.came s)); simpa using this
end Go.Pal
namespace Go.Proofs.Ytabongfoeoideaa
open Go.RowKit Go.Pal
set_option linter.unusedVariables false

theorem row_map {w : World} {base n size : Nat} {t : TypeId} {v : Value} {l : List Value} {P : Program} {k : TypeId} {b m : Nat} {f : ByteArray → Option Value} (h : w.ownsRow base t size v n l) (hm : MapF P k w b m f) : v.ownBlock ≠ some b := by
  intro e
  obtain ⟨_, _, cur, h2⟩ := own_lt h e
  obtain ⟨es, c, h1⟩ := hm.obj
  rw [h1] at h2; cases h2
theorem row_row {w : World} {base n size base' n' size' : Nat} {t t' : TypeId} {v v' : Value} {l l' : List Value} (h : w.ownsRow base t size v n l) (h' : w.ownsRow base' t' size' v' n' l') (ht : t ≠ t') {g : Nat} (hg : v.ownBlock = some g) : v'.ownBlock ≠ some g := by
  intro e
  obtain ⟨_, _, cur, h2⟩ := own_lt h hg
  obtain ⟨_, _, cur', h3⟩ := own_lt h' e
  rw [h2] at h3
  injection h3 with h3
  injection h3 with _ h3
  exact ht h3
theorem MapF.strike {P : Program} {k : TypeId} {w : World} {b : Nat} {l : List ByteArray} {s : ByteArray} (hn : l.Nodup) (h : MapF P k w b (if (setL l s).isSome then l.length - 1 else l.length) (delF (setL l) s)) : MapF P k w b (strike l s).length (setL (strike l s)) := by
  rw [strike_length hn]
  exact h.same (fun x => delF_setL l s x)
theorem nodup_mb {ws : List Wt} (h : (ws.map Wt.mb).Nodup) {i k : Nat} (hi : i < ws.length) (hk : k < ws.length) (hne : i ≠ k) : ws[i].mb ≠ ws[k].mb := by
  intro e
  have hp := List.pairwise_iff_getElem.1 h
  rcases Nat.lt_or_gt_of_ne hne with h1 | h1
  · exact hp i k (by simpa using hi) (by simpa using hk) h1 (by simpa using e)
  · exact hp k i (by simpa using hk) (by simpa using hi) h1 (by simpa using e.symm)
theorem stay_mem {id : ByteArray} {ws : List Wt} {x : Wt} (h : x ∈ stayW id ws) : ∃ y ∈ ws, x = y.came id := by
  unfold stayW at h
  obtain ⟨y, hy, e⟩ := List.mem_map.1 (List.mem_filter.1 h).1
  exact ⟨y, hy, e.symm⟩
theorem stay_apart {id : ByteArray} {ws : List Wt} (h : (ws.map Wt.mb).Nodup) : ((stayW id ws).map Wt.mb).Nodup := by
  have e : ws.map Wt.mb = (ws.map (Wt.came id)).map Wt.mb := by rw [List.map_map]; rfl
  rw [e] at h
  exact h.sublist (List.filter_sublist.map _)
end Go.Proofs.Ytabongfoeoideaa
