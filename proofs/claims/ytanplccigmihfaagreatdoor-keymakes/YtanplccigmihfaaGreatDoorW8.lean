/-
  The law's own clash; plain: a turned value that leads to the same public comes with two unlike texts of one digest.
-/
import Derived.Test.YtanplccigmihfaaGreatDoorW7
import Derived.Test.YtanplccigmihfaaGreatDoorM8
namespace Go.Proofs.YtanplccigmihfaaGreatDoor
open Go.RowKit Go.Pal

theorem input1_inj (K x y : ByteArray) (hK : K.size ≤ 1000000) (hx : x.size ≤ 1000000) (hy : y.size ≤ 1000000) (h : (⟨(inputL 1 [K, x]).toArray⟩ : ByteArray) = ⟨(inputL 1 [K, y]).toArray⟩) : x = y := by
  have h1 : inputL 1 [K, x] = inputL 1 [K, y] := by
    have := congrArg (fun b : ByteArray => b.data.toList) h
    simpa using this
  unfold inputL at h1
  have h2 := ShaApart.flat_inj [K, x] [K, y] (by
    intro p hp
    simp only [List.mem_cons, List.not_mem_nil, or_false] at hp
    rcases hp with rfl | rfl <;> omega) (by
    intro p hp
    simp only [List.mem_cons, List.not_mem_nil, or_false] at hp
    rcases hp with rfl | rfl <;> omega) (List.cons.inj h1).2
  exact (List.cons.inj (List.cons.inj h2).2).1
theorem input3_inj (l m : List ByteArray) (hl : SmallL l) (hm : SmallL m) (h : (⟨(inputL 3 l).toArray⟩ : ByteArray) = ⟨(inputL 3 m).toArray⟩) : l = m := by
  have h1 : inputL 3 l = inputL 3 m := by
    have := congrArg (fun b : ByteArray => b.data.toList) h
    simpa using this
  unfold inputL at h1
  have small : ∀ l : List ByteArray, SmallL l → ∀ p ∈ l, p.size < 4294967296 := by
    intro l hl p hp
    obtain ⟨i, hi, rfl⟩ := List.getElem_of_mem hp
    have := hl i
    rw [List.getD_eq_getElem?_getD, List.getElem?_eq_getElem hi] at this
    simp at this; omega
  exact ShaApart.flat_inj l m (small l hl) (small m hm) (List.cons.inj h1).2

theorem chain_clash (k : Nat) (hk : k < 256) (v x : ByteArray) (hv : v.size ≤ 1000000) (hx : x.size ≤ 1000000) (hne : v ≠ x) : ∀ n, chainB (k : Int) v n = chainB (k : Int) x n → ∃ j, j < n ∧ (⟨(inputL 1 [be 1 k, chainB (k : Int) v j]).toArray⟩ : ByteArray) ≠ ⟨(inputL 1 [be 1 k, chainB (k : Int) x j]).toArray⟩ ∧ shaB ⟨(inputL 1 [be 1 k, chainB (k : Int) v j]).toArray⟩ = shaB ⟨(inputL 1 [be 1 k, chainB (k : Int) x j]).toArray⟩
  | 0, h => absurd h hne
  | n + 1, h => by
    by_cases he : chainB (k : Int) v n = chainB (k : Int) x n
    · obtain ⟨j, h1, h2⟩ := chain_clash k hk v x hv hx hne n he
      exact ⟨j, by omega, h2⟩
    · refine ⟨n, by omega, fun hs => he (input1_inj _ _ _ (by rw [be_size]; omega) (chainB_size _ _ hv n) (chainB_size _ _ hx n) hs), ?_⟩
      have e : ((k : Int) % 256).toNat = k := by omega
      rw [chainB, chainB, stepB, stepB, e] at h
      exact h

theorem turn_clash (dl : List Nat) (vs : List ByteArray) (k : Nat) (x : ByteArray) (hk : k < 67) (hlen : vs.length = 67) (hs : SmallL vs) (hx : x.size ≤ 1000000) (hne : vs.getD k ByteArray.empty ≠ x)
    (h : recoverB dl vs = recoverB dl (vs.set k x)) : ∃ a b, a ∈ roadR dl vs 67 ++ [⟨(inputL 3 (walkL vs fun k => 15 - dl.getD k 0)).toArray⟩] ∧ b ∈ roadR dl (vs.set k x) 67 ++ [⟨(inputL 3 (walkL (vs.set k x) fun k => 15 - dl.getD k 0)).toArray⟩] ∧ a ≠ b ∧ shaB a = shaB b := by
  by_cases hi : (⟨(inputL 3 (walkL vs fun k => 15 - dl.getD k 0)).toArray⟩ : ByteArray) = ⟨(inputL 3 (walkL (vs.set k x) fun k => 15 - dl.getD k 0)).toArray⟩
  · have hE := input3_inj _ _ (fun i => walkL_le _ _ 1000000 (by omega) hs i) (fun i => walkL_le _ _ 1000000 (by omega) (small_set vs k x hs hx) i) hi
    have g1 := walkL_get vs (fun k => 15 - dl.getD k 0) k (by omega)
    have g2 := walkL_get (vs.set k x) (fun k => 15 - dl.getD k 0) k (by rw [List.length_set]; omega)
    have ex : (vs.set k x).getD k ByteArray.empty = x := by
      rw [List.getD_eq_getElem?_getD, List.getElem?_set_self (by omega)]; rfl
    rw [ex] at g2
    rw [← hE, g1] at g2
    obtain ⟨j, hj, h1, h2⟩ := chain_clash k (by omega) _ x (hs k) hx hne _ g2
    refine ⟨_, _, List.mem_append_left _ ?_, List.mem_append_left _ ?_, h1, h2⟩
    · exact List.mem_flatMap.2 ⟨k, List.mem_range.2 hk, List.mem_map.2 ⟨j, List.mem_range.2 hj, rfl⟩⟩
    · exact List.mem_flatMap.2 ⟨k, List.mem_range.2 hk, List.mem_map.2 ⟨j, List.mem_range.2 hj, by rw [ex]⟩⟩
  · exact ⟨_, _, List.mem_append_right _ (List.mem_singleton.2 rfl), List.mem_append_right _ (List.mem_singleton.2 rfl), hi, h⟩

end Go.Proofs.YtanplccigmihfaaGreatDoor
