/-
  Plain mathematics for layer 4: where two ways part, two unlike inputs have one digest.
-/
import Derived.Test.YtanplccigmihfaaGreatDoorM4
import Derived.Test.YtanplccigmihfaaGreatDoorApartA
import Derived.Test.YtanplccigmihfaaGreatDoorWL
namespace Go.Proofs.YtanplccigmihfaaGreatDoor
open Go.RowKit Go.Pal

theorem input4_inj (x y u v : ByteArray) (hx : x.size ≤ 1000000) (hy : y.size ≤ 1000000) (hu : u.size ≤ 1000000) (hv : v.size ≤ 1000000)
    (h : (⟨(inputL 4 [x, y]).toArray⟩ : ByteArray) = ⟨(inputL 4 [u, v]).toArray⟩) : x = u ∧ y = v := by
  have h1 : inputL 4 [x, y] = inputL 4 [u, v] := by
    have := congrArg (fun b : ByteArray => b.data.toList) h
    simpa using this
  unfold inputL at h1
  have h2 := ShaApart.flat_inj [x, y] [u, v] (by
    intro p hp
    simp only [List.mem_cons, List.not_mem_nil, or_false] at hp
    rcases hp with rfl | rfl <;> omega) (by
    intro p hp
    simp only [List.mem_cons, List.not_mem_nil, or_false] at hp
    rcases hp with rfl | rfl <;> omega) (List.cons.inj h1).2
  have h3 := List.cons.inj h2
  exact ⟨h3.1, (List.cons.inj h3.2).1⟩

theorem step_unlike (a b : ByteArray) (i : Nat) (path : List ByteArray) (ha : a.size ≤ 1000000) (hb : b.size ≤ 1000000) (hp : SmallL path) (k : Nat) (h : stepIn a i path k = stepIn b i path k) : foldAt a i path k = foldAt b i path k := by
  have s1 := foldAt_size a i path ha k
  have s2 := foldAt_size b i path hb k
  have s3 := hp k
  unfold stepIn at h
  by_cases hq : i / 2 ^ k % 2 = 1
  · rw [if_pos hq, if_pos hq] at h
    exact (input4_inj _ _ _ _ s3 s1 s3 s2 h).2
  · rw [if_neg hq, if_neg hq] at h
    exact (input4_inj _ _ _ _ s1 s3 s2 s3 h).1

theorem fold_clash (a b : ByteArray) (i : Nat) (path : List ByteArray) (ha : a.size ≤ 1000000) (hb : b.size ≤ 1000000) (hp : SmallL path) (hne : a ≠ b) : ∀ n, foldAt a i path n = foldAt b i path n → ∃ k, k < n ∧ stepIn a i path k ≠ stepIn b i path k ∧ shaB (stepIn a i path k) = shaB (stepIn b i path k)
  | 0, h => absurd h hne
  | n + 1, h => by
    by_cases he : foldAt a i path n = foldAt b i path n
    · obtain ⟨k, h1, h2⟩ := fold_clash a b i path ha hb hp hne n he
      exact ⟨k, by omega, h2⟩
    · refine ⟨n, by omega, fun hs => he (step_unlike a b i path ha hb hp n hs), ?_⟩
      rw [← foldAt_in, ← foldAt_in]; exact h

theorem stepIn_size (a : ByteArray) (i : Nat) (path : List ByteArray) (ha : a.size ≤ 1000000) (hp : SmallL path) (k : Nat) : (stepIn a i path k).size ≤ 9000000 := by
  have s1 := foldAt_size a i path ha k
  have s3 := hp k
  unfold stepIn
  generalize path.getD k ByteArray.empty = p at *
  split
  · show (inputL 4 _).toArray.size ≤ _
    rw [List.size_toArray, inputL_length]; simp [totL]; omega
  · show (inputL 4 _).toArray.size ≤ _
    rw [List.size_toArray, inputL_length]; simp [totL]; omega

end Go.Proofs.YtanplccigmihfaaGreatDoor
