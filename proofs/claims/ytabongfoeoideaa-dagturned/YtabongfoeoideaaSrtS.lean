/-
  A set's texts, sorted: slices.Sorted(maps.Keys(m)) at a set, by its members.
-/
import Derived.Test.YtabongfoeoideaaRs0
import Derived.Test.YtabongfoeoideaaSrtU
import Derived.OwnWalkIn
import Derived.TacticsInMore
namespace Go.Proofs.Ytabongfoeoideaa
open Go.RowKit Go.Pal Go.Pal.Dk Go.Maps Go.Sort

/-- What a sort makes of any texts that are these. -/
theorem sort_rising {l : List ByteArray} (hs : Rising l) {ss : List (List UInt8)} (hp : ss.Perm (l.map fun f => f.data.toList)) : (ss.mergeSort (fun x y => decide (x ≤ y))).map encStr = l.map Value.string := by
  have h1 : ss.mergeSort leB = (l.map fun f => f.data.toList).mergeSort leB := mergeSort_of_perm hp
  have h2 : (l.map fun f => f.data.toList).mergeSort leB = l.map fun f => f.data.toList := by
    apply List.mergeSort_of_pairwise
    refine List.pairwise_map.2 (hs.imp ?_)
    intro a b hab
    simp only [decide_eq_true_eq]
    exact List.le_of_lt hab
  show (ss.mergeSort leB).map encStr = _
  rw [h1, h2, List.map_map]
  apply List.map_congr_left
  intro f _
  simp [encStr]
/-- The keys of a map, whatever its order. -/
theorem keysF_perm {w : World} {b nn : Nat} {D : DataW Value} {f : ByteArray → Option Value} {l : List ByteArray} (hown : w.ownsMap Try.prog 9 hvV b nn D) (hh : Holds D f) (hl : Rising l) (hm : ∀ s, s ∈ l ↔ (f s).isSome = true) : (l.map fun f => f.data.toList).Perm (strKeys D) := by
  obtain ⟨es, hD, hpw, _⟩ := hown.entries (Maps.string_keyed Try.underlying9)
  obtain ⟨es', hD', hko⟩ := hown.keysOf
  obtain rfl : es = es' := by rw [hD] at hD'; simpa using hD'
  subst hD
  refine perm_strKeys hpw (fun p hp => by obtain ⟨v, hv⟩ := hko p hp; obtain ⟨x, _, hx, _⟩ := Maps.keyOf_str Try.underlying9 hv; exact ⟨x, hx⟩) ?_ (fun x => ?_)
  · refine List.pairwise_map.2 (hl.imp ?_)
    intro a b hab e
    exact ltB_irrefl a (by have := hab; unfold ltB at this ⊢; rw [← e] at this; exact this)
  · have e1 : kS ⟨x.toArray⟩ = .string x := by simp [kS]
    have := (hh ⟨x.toArray⟩).1
    rw [e1] at this
    rw [this, ← hm]
    constructor
    · intro hx
      obtain ⟨s, hs, e⟩ := List.mem_map.1 hx
      have : s = ⟨x.toArray⟩ := data_inj (by simpa using e)
      rw [← this]; exact hs
    · intro hx
      exact List.mem_map.2 ⟨_, hx, by simp⟩
theorem keys_call (mb : Option Nat) (w : World) : Calls Try.prog 38 #[.map mb] w fun e w' => e = .returned (.func (.func 47) #[] #[.pointer (some ⟨w.heap.size, 0, none⟩)]) ∧ w' = w.alloc (.cells #[.map mb] 66) :=
  callsIn_wide.1 (srt_keys mb w)
theorem sorted_call {w : World} {b n : Nat} {f : ByteArray → Option Value} {l : List ByteArray} (h : MapF Try.prog 9 w b n f) (hl : Rising l) (hm : ∀ s, s ∈ l ↔ (f s).isSome = true) (hn : n ≤ 1000000000) :
    Calls Try.prog 34 #[.func (.func 47) #[] #[.pointer (some ⟨w.heap.size, 0, none⟩)]] (w.alloc (.cells #[.map (some b)] 66)) fun e w' => ∃ v, e = .returned v ∧ w'.ownsRow (w.heap.size + 1) 9 1 v l.length (l.map Value.string) ∧ Below (w.heap.size + 1) (w.alloc (.cells #[.map (some b)] 66)) w' := by
  obtain ⟨D, hown, hs, hh⟩ := h
  have hz : (w.alloc (.cells #[.map (some b)] 66)).heap.size = w.heap.size + 1 := by simp
  refine Calls.mono (callsIn_wide.1 (srt_some b n D hvV w hown (by unfold maxLen; omega) (by omega))) ?_
  rintro e w' ⟨v, ss, rfl, hS, hrow, hnil, hb2⟩
  have hp2 := hS.trans (keysF_perm hown hh hl hm).symm
  have hll := hp2.length_eq
  rw [sort_rising hl hp2, hll] at hrow
  simp only [List.length_map] at hrow
  rw [hz] at hrow hb2
  exact ⟨v, rfl, hrow, hb2⟩
end Go.Proofs.Ytabongfoeoideaa
