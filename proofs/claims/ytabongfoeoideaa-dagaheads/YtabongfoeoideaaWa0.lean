/-
  Layer 13: a room to wait, as it lies in memory; plain mathematics.
-/
import Derived.Test.YtabongfoeoideaaQr0
import Derived.Test.YtabongfoeoideaaMp
import Derived.Test.YtabongfoeoideaaClone
namespace Go.Pal
open Go.RowKit

/-- What waits: its id, its text, its map's block, and for which ids it waits, each once. -/
structure Wt where
  id : ByteArray
  text : ByteArray
  mb : Nat
  miss : List ByteArray
def unitV : Value := .agg #[]
def memB (l : List ByteArray) (s : ByteArray) : Bool := l.any (fun x => decide (x = s))
theorem memB_iff {l : List ByteArray} {s : ByteArray} : memB l s = true ↔ s ∈ l := by simp [memB]
theorem memB_not {l : List ByteArray} {s : ByteArray} : memB l s = false ↔ s ∉ l := by
  rw [← memB_iff]; cases memB l s <;> simp
/-- A set of texts, as its map has it. -/
def setL (l : List ByteArray) : ByteArray → Option Value := fun s => if memB l s then some unitV else none
theorem setL_some (l : List ByteArray) (s : ByteArray) : (setL l s).isSome = memB l s := by
  unfold setL; cases memB l s <;> rfl
theorem memB_same {l m : List ByteArray} (h : ∀ s, s ∈ l ↔ s ∈ m) (s : ByteArray) : memB l s = memB m s := by
  rw [Bool.eq_iff_iff, memB_iff, memB_iff]; exact h s
theorem setL_same {l m : List ByteArray} (h : ∀ s, s ∈ l ↔ s ∈ m) (s : ByteArray) : setL l s = setL m s := by
  unfold setL; rw [memB_same h s]
/-- One text more, if it isn't there. -/
def addL (l : List ByteArray) (s : ByteArray) : List ByteArray := if memB l s then l else l ++ [s]
theorem mem_addL {l : List ByteArray} {s x : ByteArray} : x ∈ addL l s ↔ x ∈ l ∨ x = s := by
  unfold addL; split
  · rename_i h
    exact ⟨.inl, fun h2 => by rcases h2 with h2 | rfl; exact h2; exact memB_iff.1 h⟩
  · simp
theorem addL_nodup {l : List ByteArray} (h : l.Nodup) (s : ByteArray) : (addL l s).Nodup := by
  unfold addL; split
  · exact h
  · rename_i hn
    rw [List.nodup_append]
    exact ⟨h, by simp, fun a ha b hb => by simp at hb; subst hb; exact fun e => hn (memB_iff.2 (e ▸ ha))⟩
theorem addL_length (l : List ByteArray) (s : ByteArray) : (addL l s).length = if (setL l s).isSome then l.length else l.length + 1 := by
  rw [setL_some]; unfold addL; split <;> simp_all
theorem putF_setL (l : List ByteArray) (s x : ByteArray) : setL (addL l s) x = putF (setL l) s unitV x := by
  unfold putF
  by_cases e : x = s
  · rw [if_pos e]; unfold setL; rw [memB_iff.2 (mem_addL.2 (.inr e))]; rfl
  · rw [if_neg e]; unfold setL
    have : memB (addL l s) x = memB l x := by
      rw [Bool.eq_iff_iff, memB_iff, memB_iff, mem_addL]
      exact ⟨fun h => by rcases h with h | h; exact h; exact absurd h e, .inl⟩
    rw [this]
def dedupL (l : List ByteArray) : List ByteArray := l.foldl addL []
theorem dedup_snoc (l : List ByteArray) (s : ByteArray) : dedupL (l ++ [s]) = addL (dedupL l) s := by simp [dedupL, List.foldl_append]
theorem fold_add (l : List ByteArray) : ∀ acc : List ByteArray, (acc.Nodup → (l.foldl addL acc).Nodup) ∧ (∀ s, s ∈ l.foldl addL acc ↔ s ∈ acc ∨ s ∈ l) ∧ (l.foldl addL acc).length ≤ acc.length + l.length := by
  induction l with
  | nil => intro acc; simp
  | cons x r ih =>
    intro acc
    obtain ⟨h1, h2, h3⟩ := ih (addL acc x)
    refine ⟨fun hn => h1 (addL_nodup hn x), fun s => ?_, ?_⟩
    · show s ∈ r.foldl addL (addL acc x) ↔ _
      rw [h2, mem_addL, List.mem_cons]
      constructor
      · rintro ((h | h) | h)
        · exact .inl h
        · exact .inr (.inl h)
        · exact .inr (.inr h)
      · rintro (h | h | h)
        · exact .inl (.inl h)
        · exact .inl (.inr h)
        · exact .inr h
    · show (r.foldl addL (addL acc x)).length ≤ _
      have : (addL acc x).length ≤ acc.length + 1 := by unfold addL; split <;> simp
      simp only [List.length_cons]; omega
theorem dedup_nodup (l : List ByteArray) : (dedupL l).Nodup := (fold_add l []).1 List.nodup_nil
theorem mem_dedup (l : List ByteArray) (s : ByteArray) : s ∈ dedupL l ↔ s ∈ l := by
  have := (fold_add l []).2.1 s
  simpa [dedupL] using this
theorem dedup_le (l : List ByteArray) : (dedupL l).length ≤ l.length := by
  have := (fold_add l []).2.2
  simpa [dedupL] using this
theorem nodup_length {l m : List ByteArray} (h1 : l.Nodup) (h2 : m.Nodup) (h : ∀ s, s ∈ l ↔ s ∈ m) : l.length = m.length := ((List.perm_ext_iff_of_nodup h1 h2).2 h).length_eq
/-- All but one. -/
def strike (l : List ByteArray) (s : ByteArray) : List ByteArray := l.filter (fun x => decide (x ≠ s))
theorem mem_strike {l : List ByteArray} {s x : ByteArray} : x ∈ strike l s ↔ x ∈ l ∧ x ≠ s := by simp [strike]
theorem strike_nodup {l : List ByteArray} (h : l.Nodup) (s : ByteArray) : (strike l s).Nodup := h.filter _
theorem strike_length {l : List ByteArray} (h : l.Nodup) (s : ByteArray) : (strike l s).length = if (setL l s).isSome then l.length - 1 else l.length := by
  rw [setL_some]
  unfold strike
  induction l with
  | nil => rfl
  | cons a r ih =>
    rw [List.nodup_cons] at h
    have ih' := ih h.2
    by_cases e : a = s
    · subst e
      have hn : memB r a = false := memB_not.2 h.1
      have hy : memB (a :: r) a = true := memB_iff.2 List.mem_cons_self
      rw [hn] at ih'
      rw [hy, List.filter_cons_of_neg (by simp), ih']
      simp
    · have hm : memB (a :: r) s = memB r s := by simp [memB, e]
      rw [List.filter_cons_of_pos (by simpa using e), List.length_cons, ih', hm]
      cases h3 : memB r s
      · simp
      · have := List.length_pos_of_mem (memB_iff.1 h3)
        simp; omega
theorem delF_setL (l : List ByteArray) (s x : ByteArray) : setL (strike l s) x = delF (setL l) s x := by
  unfold delF
  by_cases e : x = s
  · rw [if_pos e]; unfold setL; rw [memB_not.2 (fun h => (mem_strike.1 h).2 e)]; rfl
  · rw [if_neg e]; unfold setL
    have : memB (strike l s) x = memB l x := by
      rw [Bool.eq_iff_iff, memB_iff, memB_iff, mem_strike]
      exact ⟨fun h => h.1, fun h => ⟨h, e⟩⟩
    rw [this]

def Wt.cells (x : Wt) : List Value := [.string x.id, .string x.text, .map (some x.mb)]
def cellsW : List Wt → List Value
  | [] => []
  | f :: r => f.cells ++ cellsW r
theorem cellsW_length : ∀ l : List Wt, (cellsW l).length = l.length * 3
  | [] => rfl
  | f :: r => by simp only [cellsW, Wt.cells, List.length_append, List.length_cons, List.length_nil, cellsW_length r]; omega
theorem cellsW_append : ∀ l m : List Wt, cellsW (l ++ m) = cellsW l ++ cellsW m
  | [], m => rfl
  | f :: r, m => by simp [cellsW, cellsW_append r m]
theorem cellsW_get : ∀ (l : List Wt) (i : Nat) (hi : i < l.length) (j : Nat), j < 3 → (cellsW l)[i * 3 + j]? = (l[i].cells)[j]?
  | f :: r, 0, _, j, hj => by
    simp only [cellsW, Nat.zero_mul, Nat.zero_add]
    rw [List.getElem?_append_left (by simp [Wt.cells]; omega)]; rfl
  | f :: r, i + 1, hi, j, hj => by
    simp only [cellsW]
    rw [List.getElem?_append_right (by simp [Wt.cells]; omega)]
    rw [show (i + 1) * 3 + j - f.cells.length = i * 3 + j by simp [Wt.cells]; omega]
    exact cellsW_get r i (by simpa using hi) j hj
theorem cellsW_take (l : List Wt) (k : Nat) : (cellsW l).take (k * 3) = cellsW (l.take k) := by
  by_cases h : k ≤ l.length
  · have e : cellsW l = cellsW (l.take k) ++ cellsW (l.drop k) := by rw [← cellsW_append, List.take_append_drop]
    rw [e, List.take_append_of_le_length (by rw [cellsW_length, List.length_take]; omega)]
    exact List.take_of_length_le (by rw [cellsW_length, List.length_take]; omega)
  · rw [List.take_of_length_le (by rw [cellsW_length]; omega), List.take_of_length_le (by omega)]
theorem cellsW_drop (l : List Wt) (k : Nat) (h : k ≤ l.length) : (cellsW l).drop (k * 3) = cellsW (l.drop k) := by
  have e : cellsW l = cellsW (l.take k) ++ cellsW (l.drop k) := by rw [← cellsW_append, List.take_append_drop]
  rw [e, List.drop_append_of_le_length (by rw [cellsW_length, List.length_take]; omega)]
  rw [List.drop_of_length_le (by rw [cellsW_length, List.length_take]; omega)]; rfl
theorem cellsW_one (l : List Wt) : ∀ u ∈ cellsW l, u.oneCell' = true := by
  induction l with
  | nil => intro u hu; cases hu
  | cons f r ih =>
    intro u hu
    simp only [cellsW, List.mem_append] at hu
    rcases hu with h | h
    · simp only [Wt.cells, List.mem_cons, List.not_mem_nil, or_false] at h
      rcases h with rfl | rfl | rfl <;> rfl
    · exact ih u h
/-- The cells hang on ids, texts and maps alone. -/
theorem cellsW_same : ∀ {l m : List Wt}, l.map Wt.cells = m.map Wt.cells → cellsW l = cellsW m
  | [], [], _ => rfl
  | [], _ :: _, h => by cases h
  | _ :: _, [], h => by cases h
  | a :: r, b :: s, h => by
    simp only [List.map_cons, List.cons.injEq] at h
    simp only [cellsW, h.1, cellsW_same h.2]
/-- Where what waits by an id stands. -/
def findW : List Wt → ByteArray → Option Nat
  | [], _ => none
  | x :: r, s => if x.id = s then some 0 else (findW r s).map (· + 1)
theorem findW_some : ∀ {l : List Wt} {s : ByteArray} {i : Nat}, findW l s = some i → ∃ h : i < l.length, l[i].id = s ∧ ∀ k (hk : k < i), l[k].id ≠ s
  | [], _, _, h => by cases h
  | x :: r, s, i, h => by
    unfold findW at h
    by_cases e : x.id = s
    · rw [if_pos e] at h; cases h
      exact ⟨by simp, e, fun k hk => absurd hk (Nat.not_lt_zero k)⟩
    · rw [if_neg e] at h
      cases hf : findW r s with
      | none => rw [hf] at h; cases h
      | some j =>
        rw [hf] at h; cases h
        obtain ⟨h1, h2, h3⟩ := findW_some hf
        refine ⟨by simpa using h1, by simpa using h2, fun k hk => ?_⟩
        cases k with
        | zero => simpa using e
        | succ k => have hk2 : k + 1 < j + 1 := hk; simpa using h3 k (by omega)
theorem findW_none : ∀ {l : List Wt} {s : ByteArray}, findW l s = none → ∀ x ∈ l, x.id ≠ s
  | [], _, _, x, hx => by cases hx
  | y :: r, s, h, x, hx => by
    unfold findW at h
    by_cases e : y.id = s
    · rw [if_pos e] at h; cases h
    · rw [if_neg e] at h
      have : findW r s = none := by simpa using h
      rcases List.mem_cons.1 hx with rfl | hx
      · exact e
      · exact findW_none this x hx
def findI (l : List Wt) (s : ByteArray) : Int := match findW l s with | none => -1 | some i => (i : Int)
theorem beqWF {a b : ByteArray} (h : a ≠ b) : (a.toList == b.toList) = false := by
  cases hc : (a.toList == b.toList)
  · rfl
  · exact absurd (ByteArray.ext_iff.2 (Array.toList_inj.1 (by rw [← ByteArray.toList_eq, ← ByteArray.toList_eq]; simpa using hc))) h
theorem beqWT {a : ByteArray} : (a.toList == a.toList) = true := by simp
end Go.Pal
namespace Go.Proofs.Ytabongfoeoideaa
open Go.RowKit Go.Pal

def WFoot (W : Nat) (v : Value) (ws : List Wt) (g : Nat) : Prop := g = W ∨ v.ownBlock = some g ∨ ∃ x ∈ ws, g = x.mb
theorem ownS_cell {w : World} {base size : Nat} {t : TypeId} {g n cap : Nat} {l : List Value} (h : w.ownsRow base t size (.slice (some ⟨g, 0, none⟩) n cap) n l) (k : Nat) (hk : k < n * size) : w.cell? ⟨g, k, none⟩ = l[k]? ∧ w.frozen? ⟨g, k, none⟩ = false := by
  rcases h.2 with ⟨h1, _⟩ | ⟨g', cap', cur, e, _, hh, _, _, _, ht⟩
  · cases h1
  · cases e
    refine ⟨?_, by simp [World.frozen?, hh]⟩
    have e1 : w.cell? ⟨g, k, none⟩ = cur.toList[k]? := by simp [World.cell?, hh]
    rw [e1, ← ht, List.getElem?_take_of_lt (by omega)]
theorem rowS_form {w : World} {base n size : Nat} {t : TypeId} {v : Value} {l : List Value} (h : w.ownsRow base t size v n l) : ∃ p cap, v = .slice p n cap ∧ n ≤ cap ∧ cap ≤ maxLen ∧ (0 < n → ∃ g, p = some ⟨g, 0, none⟩) := by
  rcases h.2 with ⟨rfl, rfl⟩ | ⟨g, cap, cur, rfl, _, _, h1, h2, _⟩
  · exact ⟨none, 0, rfl, Nat.le_refl _, Nat.zero_le _, fun h => absurd h (Nat.lt_irrefl 0)⟩
  · exact ⟨_, cap, rfl, h1, h2, fun _ => ⟨g, rfl⟩⟩
end Go.Proofs.Ytabongfoeoideaa
