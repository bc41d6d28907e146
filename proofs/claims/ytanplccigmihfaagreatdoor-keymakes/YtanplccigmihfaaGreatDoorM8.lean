/-
  Plain mathematics for layer 4: the root of leaves of which one is another one.
-/
import Derived.Test.YtanplccigmihfaaGreatDoorM5
import Derived.Test.YtanplccigmihfaaGreatDoorM7
namespace Go.Pal
open Go.RowKit
theorem set_row (l : List ByteArray) (k : Nat) (x : ByteArray) : ∀ j q, q ≠ k / 2 ^ j → (rowN j (l.set k x)).getD q ByteArray.empty = (rowN j l).getD q ByteArray.empty
  | 0, q, h => by
    rw [Nat.pow_zero, Nat.div_one] at h
    rw [rowN, rowN, List.getD_eq_getElem?_getD, List.getD_eq_getElem?_getD, List.getElem?_set_ne (Ne.symm h)]
  | j + 1, q, h => by
    rw [half_step] at h
    have hl : (rowN j (l.set k x)).length = (rowN j l).length := by rw [rowN_length, rowN_length, List.length_set]
    rw [rowN, rowN]
    by_cases hq : q < (rowN j l).length / 2
    · rw [rowUp_get _ _ (by rw [hl]; exact hq), rowUp_get _ _ hq, set_row l k x j (2 * q) (by omega), set_row l k x j (2 * q + 1) (by omega)]
    · rw [List.getD_eq_getElem?_getD, List.getD_eq_getElem?_getD, List.getElem?_eq_none (by rw [rowUp_length, hl]; omega), List.getElem?_eq_none (by rw [rowUp_length]; omega)]
theorem beside_ne (q : Nat) : beside q ≠ q := by unfold beside; split <;> omega
theorem set_path (l : List ByteArray) (k H : Nat) (x : ByteArray) : pathTo (l.set k x) k H = pathTo l k H := by
  unfold pathTo
  exact List.map_congr_left fun j _ => set_row l k x j _ (beside_ne _)
theorem set_root (l : List ByteArray) (k H : Nat) (x : ByteArray) (hl : l.length = 2 ^ H) (hk : k < 2 ^ H) : (rowN H (l.set k x)).getD 0 ByteArray.empty = foldAt x k (pathTo l k H) H := by
  have h := fold_path (l.set k x) k H (by rw [List.length_set, hl]) hk H (Nat.le_refl _)
  rw [set_path, Nat.div_eq_of_lt hk] at h
  rw [← h]
  have e : (l.set k x).getD k ByteArray.empty = x := by
    rw [List.getD_eq_getElem?_getD, List.getElem?_set_self (by omega)]; rfl
  rw [e]
theorem own_root (l : List ByteArray) (k H : Nat) (hl : l.length = 2 ^ H) (hk : k < 2 ^ H) : (rowN H l).getD 0 ByteArray.empty = foldAt (l.getD k ByteArray.empty) k (pathTo l k H) H := by
  have h := fold_path l k H hl hk H (Nat.le_refl _)
  rw [Nat.div_eq_of_lt hk] at h
  exact h.symm
theorem small_set (l : List ByteArray) (k : Nat) (x : ByteArray) (h : SmallL l) (hx : x.size ≤ 1000000) : SmallL (l.set k x) := by
  intro i
  by_cases hi : i = k
  · subst hi
    rw [List.getD_eq_getElem?_getD, List.getElem?_set]
    by_cases hl : i < l.length
    · simp [hl]; exact hx
    · simp [hl]
  · rw [List.getD_eq_getElem?_getD, List.getElem?_set_ne (Ne.symm hi), ← List.getD_eq_getElem?_getD]; exact h i
theorem small_path (l : List ByteArray) (i H : Nat) (h : SmallL l) : SmallL (pathTo l i H) := by
  intro k
  by_cases hk : k < H
  · rw [pathTo_get l i H k hk]; exact smallL_n l h k _
  · rw [List.getD_eq_getElem?_getD, List.getElem?_eq_none (by rw [pathTo_length]; omega)]
    show ByteArray.empty.size ≤ _; decide
theorem strs_one (l : List ByteArray) : ∀ u ∈ l.map strV, u.oneCell' = true := by
  intro u hu
  obtain ⟨s, _, rfl⟩ := List.mem_map.1 hu
  rfl
theorem strRow_news {w : World} {b off : Nat} {l : List ByteArray} (h : StrRow w (some ⟨b, off, none⟩) l) : ∀ (j : Nat) (u : Value), (l.map strV)[j]? = some u → w.cell? ((⟨b, off, none⟩ : Addr).add j) = some u := by
  intro j u hj
  have hlt : j < l.length := by
    rcases Nat.lt_or_ge j l.length with h1 | h1
    · exact h1
    · rw [List.getElem?_eq_none (by simpa using h1)] at hj; cases hj
  rw [strs_get? l j hlt] at hj
  rw [Addr.add_lit, strRow_cell h j hlt, hj]
end Go.Pal
