/-
  Plain mathematics: texts in rising order, each once.
-/
import Derived.Test.YtabongfoeoideaaWa0
import Derived.Test.YtabongfoeoideaaDk0
import Derived.Sort.KeysCollected
namespace Go.Pal
open Go.RowKit Go.Pal.Dk Go.Sort

def Rising (l : List ByteArray) : Prop := l.Pairwise ltB
def ltBb (a b : ByteArray) : Bool := decide (a.data.toList < b.data.toList)
theorem ltBb_iff {a b : ByteArray} : ltBb a b = true ↔ ltB a b := by simp [ltBb, ltB]
theorem Rising.nodup {l : List ByteArray} (h : Rising l) : l.Nodup := by
  refine List.Pairwise.imp ?_ h
  intro a b hab e
  rw [← e] at hab
  exact ltB_irrefl a hab
theorem rising_unique : ∀ {l m : List ByteArray}, Rising l → Rising m → (∀ s, s ∈ l ↔ s ∈ m) → l = m
  | [], [], _, _, _ => rfl
  | [], b :: s, _, _, h => by have := (h b).2 (by simp); simp at this
  | a :: r, [], _, _, h => by have := (h a).1 (by simp); simp at this
  | a :: r, b :: s, h1, h2, h => by
    obtain ⟨a1, a2⟩ := List.pairwise_cons.1 h1
    obtain ⟨b1, b2⟩ := List.pairwise_cons.1 h2
    have hab : a = b := by
      rcases List.mem_cons.1 ((h a).1 (by simp)) with e | ha
      · exact e
      · rcases List.mem_cons.1 ((h b).2 (by simp)) with e | hb
        · exact e.symm
        · exact (ltB_asymm (b1 a ha) (a1 b hb)).elim
    subst hab
    rw [rising_unique a2 b2 (fun p => ⟨fun hp => by
      rcases List.mem_cons.1 ((h p).1 (by simp [hp])) with e | hp'
      · exact absurd (a1 p hp) (by rw [e]; exact ltB_irrefl _)
      · exact hp', fun hp => by
      rcases List.mem_cons.1 ((h p).2 (by simp [hp])) with e | hp'
      · exact absurd (b1 p hp) (by rw [e]; exact ltB_irrefl _)
      · exact hp'⟩)]
/-- Where a text stands in a rising list. -/
def placeR (x : ByteArray) : List ByteArray → Nat
  | [] => 0
  | a :: r => if ltBb a x then placeR x r + 1 else 0
theorem placeR_le (x : ByteArray) : ∀ l : List ByteArray, placeR x l ≤ l.length
  | [] => Nat.le_refl 0
  | a :: r => by
    unfold placeR; split
    · have := placeR_le x r; simp only [List.length_cons]; omega
    · exact Nat.zero_le _
theorem placeR_lo (x : ByteArray) : ∀ (l : List ByteArray) (k : Nat) (hk : k < l.length), k < placeR x l → ltB l[k] x
  | a :: r, k, hk, h => by
    unfold placeR at h
    split at h
    · rename_i hax
      cases k with
      | zero => exact ltBb_iff.1 hax
      | succ k => exact placeR_lo x r k (by simpa using hk) (by omega)
    · omega
theorem placeR_at (x : ByteArray) : ∀ (l : List ByteArray) (hk : placeR x l < l.length), ¬ ltB (l[placeR x l]'hk) x
  | a :: r, hk => by
    by_cases h : ltBb a x = true
    · have e : placeR x (a :: r) = placeR x r + 1 := by simp [placeR, h]
      have hk2 : placeR x r < r.length := by rw [e] at hk; simpa using hk
      have := placeR_at x r hk2
      simp only [e, List.getElem_cons_succ]
      exact this
    · have e : placeR x (a :: r) = 0 := by simp [placeR, h]
      simp only [e, List.getElem_cons_zero]
      exact fun hh => h (ltBb_iff.2 hh)
def insR (x : ByteArray) (l : List ByteArray) : List ByteArray := l.take (placeR x l) ++ x :: l.drop (placeR x l)
theorem mem_insR {x s : ByteArray} {l : List ByteArray} : s ∈ insR x l ↔ s = x ∨ s ∈ l := by
  unfold insR
  rw [List.mem_append, List.mem_cons]
  constructor
  · rintro (h | h | h)
    · exact .inr (List.mem_of_mem_take h)
    · exact .inl h
    · exact .inr (List.mem_of_mem_drop h)
  · rintro (h | h)
    · exact .inr (.inl h)
    · rw [← List.take_append_drop (placeR x l) l, List.mem_append] at h
      rcases h with h | h
      · exact .inl h
      · exact .inr (.inr h)
theorem insR_cons (x a : ByteArray) (r : List ByteArray) : insR x (a :: r) = if ltBb a x then a :: insR x r else x :: a :: r := by
  unfold insR
  by_cases h : ltBb a x = true
  · simp [placeR, h]
  · simp [placeR, h]
theorem insR_rising {x : ByteArray} : ∀ {l : List ByteArray}, Rising l → x ∉ l → Rising (insR x l)
  | [], _, _ => by unfold insR Rising; simp
  | a :: r, h, hn => by
    obtain ⟨a1, a2⟩ := List.pairwise_cons.1 h
    rw [insR_cons]
    have hne : a ≠ x := fun e => hn (by simp [e])
    by_cases hax : ltBb a x = true
    · rw [if_pos hax]
      refine List.pairwise_cons.2 ⟨fun y hy => ?_, insR_rising a2 (fun hm => hn (by simp [hm]))⟩
      rcases mem_insR.1 hy with rfl | hy
      · exact ltBb_iff.1 hax
      · exact a1 y hy
    · rw [if_neg hax]
      have hxa : ltB x a := ltB_or hne (fun hh => hax (ltBb_iff.2 hh))
      refine List.pairwise_cons.2 ⟨fun y hy => ?_, h⟩
      rcases List.mem_cons.1 hy with rfl | hy
      · exact hxa
      · exact ltB_trans hxa (a1 y hy)
def addR (l : List ByteArray) (x : ByteArray) : List ByteArray := if memB l x then l else insR x l
def riseL (l : List ByteArray) : List ByteArray := l.foldl addR []
theorem addR_rising {l : List ByteArray} (h : Rising l) (x : ByteArray) : Rising (addR l x) := by
  unfold addR
  cases hm : memB l x with
  | true => exact h
  | false => exact insR_rising h (memB_not.1 hm)
theorem mem_addR {l : List ByteArray} {x s : ByteArray} : s ∈ addR l x ↔ s = x ∨ s ∈ l := by
  unfold addR
  cases hm : memB l x with
  | true => exact ⟨.inr, fun h => by rcases h with rfl | h; exact memB_iff.1 hm; exact h⟩
  | false => exact mem_insR
theorem rise_snoc (l : List ByteArray) (x : ByteArray) : riseL (l ++ [x]) = addR (riseL l) x := by simp [riseL, List.foldl_append]
theorem fold_addR (l : List ByteArray) : ∀ acc : List ByteArray, (Rising acc → Rising (l.foldl addR acc)) ∧ (∀ s, s ∈ l.foldl addR acc ↔ s ∈ acc ∨ s ∈ l) ∧ (l.foldl addR acc).length ≤ acc.length + l.length := by
  induction l with
  | nil => intro acc; simp
  | cons x r ih =>
    intro acc
    obtain ⟨h1, h2, h3⟩ := ih (addR acc x)
    refine ⟨fun hn => h1 (addR_rising hn x), fun s => ?_, ?_⟩
    · show s ∈ r.foldl addR (addR acc x) ↔ _
      rw [h2, mem_addR, List.mem_cons]
      constructor
      · rintro ((h | h) | h)
        · exact .inr (.inl h)
        · exact .inl h
        · exact .inr (.inr h)
      · rintro (h | h | h)
        · exact .inl (.inr h)
        · exact .inl (.inl h)
        · exact .inr h
    · show (r.foldl addR (addR acc x)).length ≤ _
      have : (addR acc x).length ≤ acc.length + 1 := by
        unfold addR insR; split
        · omega
        · have := placeR_le x acc
          simp; omega
      simp only [List.length_cons]; omega
theorem rise_rising (l : List ByteArray) : Rising (riseL l) := (fold_addR l []).1 List.Pairwise.nil
theorem mem_rise (l : List ByteArray) (s : ByteArray) : s ∈ riseL l ↔ s ∈ l := by
  have := (fold_addR l []).2.1 s
  simpa [riseL] using this
theorem rise_le (l : List ByteArray) : (riseL l).length ≤ l.length := by
  have := (fold_addR l []).2.2
  simpa [riseL] using this
theorem rise_eq {l m : List ByteArray} (hm : Rising m) (h : ∀ s, s ∈ l ↔ s ∈ m) : riseL l = m :=
  rising_unique (rise_rising l) hm (fun s => (mem_rise l s).trans (h s))
end Go.Pal
