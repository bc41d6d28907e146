/-
  What is sorted and compacted is rising: plain mathematics.
-/
import Derived.Test.YtabongfoeoideaaRs0
import Derived.Lib.SlicesCompact
import Derived.Test.YtabongfoeoideaaDv3
namespace Go.Pal
open Go.RowKit Go.Pal.Dk
theorem lt_of_le_ne {a b : List UInt8} (h : a ≤ b) (hne : a ≠ b) : a < b := by
  by_cases h1 : a < b
  · exact h1
  · exact absurd (List.le_antisymm h (List.not_lt.1 h1)) hne
theorem comp_spec (d : Array (List UInt8)) (hs : ∀ i j, i < j → j < d.size → d[i]! ≤ d[j]!) : ∀ m, m ≤ d.size → (Lib.compactUpTo d m).Pairwise (· < ·) ∧ (∀ x ∈ Lib.compactUpTo d m, 0 < m ∧ x ≤ d[m - 1]!) ∧ (∀ x, x ∈ Lib.compactUpTo d m ↔ ∃ j, j < m ∧ d[j]! = x) := by
  intro m
  induction m with
  | zero => intro _; simp [Lib.compactUpTo]
  | succ m ih =>
    intro hm
    obtain ⟨h1, h2, h3⟩ := ih (by omega)
    rw [Lib.compactUpTo_succ]
    by_cases hk : m = 0 ∨ d[m]! ≠ d[m - 1]!
    · have hk' : Lib.keeps d m = true := decide_eq_true hk
      rw [if_pos hk']
      have hlt : ∀ x ∈ Lib.compactUpTo d m, x < d[m]! := fun x hx => by
        obtain ⟨h0, hle⟩ := h2 x hx
        have hlast : d[m - 1]! < d[m]! := lt_of_le_ne (hs _ _ (by omega) (by omega)) (fun e => hk.elim (fun h => by omega) (fun h => h e.symm))
        exact List.lt_of_le_of_lt hle hlast
      refine ⟨List.pairwise_append.2 ⟨h1, List.pairwise_singleton _ _, fun a ha b hb => by rw [List.mem_singleton.1 hb]; exact hlt a ha⟩, fun x hx => ⟨by omega, ?_⟩, fun x => ?_⟩
      · rw [Nat.add_sub_cancel]
        rcases List.mem_append.1 hx with h | h
        · exact List.le_of_lt (hlt x h)
        · rw [List.mem_singleton.1 h]; exact List.le_refl _
      · rw [List.mem_append, List.mem_singleton, h3]
        constructor
        · rintro (⟨j, hj, e⟩ | e)
          · exact ⟨j, by omega, e⟩
          · exact ⟨m, by omega, e.symm⟩
        · rintro ⟨j, hj, e⟩
          by_cases hjm : j = m
          · subst hjm; exact .inr e.symm
          · exact .inl ⟨j, by omega, e⟩
    · have hk' : Lib.keeps d m = false := decide_eq_false hk
      rw [hk']
      have h0 : 0 < m := by omega
      have heq : d[m]! = d[m - 1]! := by
        by_cases e : d[m]! = d[m - 1]!
        · exact e
        · exact absurd (.inr e) hk
      simp only [Bool.false_eq_true, if_false, List.append_nil]
      refine ⟨h1, fun x hx => ⟨by omega, by rw [Nat.add_sub_cancel, heq]; exact (h2 x hx).2⟩, fun x => ?_⟩
      rw [h3]
      constructor
      · rintro ⟨j, hj, e⟩; exact ⟨j, by omega, e⟩
      · rintro ⟨j, hj, e⟩
        by_cases hjm : j = m
        · subst hjm; exact ⟨j - 1, by omega, heq ▸ e⟩
        · exact ⟨j, by omega, e⟩
end Go.Pal
namespace Go.Proofs.Ytabongfoeoideaa
open Go.RowKit Go.Pal Go.Pal.Dk Go.Sort
theorem sortL_sorted (zs : List ByteArray) : (sortL zs).Pairwise (· ≤ ·) := by
  have h := List.pairwise_mergeSort (le := fun x y : List UInt8 => decide (x ≤ y)) (fun a b c h1 h2 => by simp only [decide_eq_true_eq] at *; exact List.le_trans h1 h2) (fun a b => by simp only [Bool.or_eq_true, decide_eq_true_eq]; exact List.le_total a b) (zs.map fun f => f.data.toList)
  exact h.imp (fun h => by simpa using h)
theorem compact_rise (zs : List ByteArray) : Lib.compact (sortL zs) = (riseL zs).map fun f => f.data.toList := by
  have hs : ∀ i j, i < j → j < (sortL zs).toArray.size → (sortL zs).toArray[i]! ≤ (sortL zs).toArray[j]! := by
    intro i j hij hj
    have hj' : j < (sortL zs).length := by simpa using hj
    have := List.pairwise_iff_getElem.1 (sortL_sorted zs) i j (by omega) hj' hij
    rw [getElem!_pos _ i (by simpa using (by omega : i < (sortL zs).length)), getElem!_pos _ j hj]
    simpa using this
  obtain ⟨h1, _, h3⟩ := comp_spec (sortL zs).toArray hs (sortL zs).length (by simp)
  have hc : Lib.compact (sortL zs) = Lib.compactUpTo (sortL zs).toArray (sortL zs).length := rfl
  rw [← hc] at h1 h3
  have e1 : ((Lib.compact (sortL zs)).map fun l => (⟨l.toArray⟩ : ByteArray)).map (fun f => f.data.toList) = Lib.compact (sortL zs) := by
    rw [List.map_map]
    simp [Function.comp_def]
  have hr : riseL zs = (Lib.compact (sortL zs)).map fun l => (⟨l.toArray⟩ : ByteArray) := by
    refine rise_eq ?_ (fun s => ?_)
    · refine List.pairwise_map.2 (h1.imp (fun h => ?_))
      simpa [ltB] using h
    · rw [List.mem_map]
      constructor
      · intro hs2
        refine ⟨s.data.toList, (h3 _).2 ?_, by simp⟩
        have hm : s.data.toList ∈ sortL zs := List.mem_mergeSort.2 (List.mem_map.2 ⟨s, hs2, rfl⟩)
        obtain ⟨j, hj, e⟩ := List.mem_iff_getElem.1 hm
        exact ⟨j, hj, by rw [getElem!_pos _ j (by simpa using hj)]; simpa using e⟩
      · rintro ⟨l, hl, rfl⟩
        obtain ⟨j, hj, e⟩ := (h3 _).1 hl
        rw [getElem!_pos _ j (by simpa using hj)] at e
        have hm : l ∈ sortL zs := by rw [← e]; simp
        obtain ⟨f, hf, e2⟩ := List.mem_map.1 (List.mem_mergeSort.1 hm)
        have : (⟨l.toArray⟩ : ByteArray) = f := by rw [← e2]
        rw [this]; exact hf
  rw [hr, e1]
end Go.Proofs.Ytabongfoeoideaa
