/-
  Plain mathematics for layer 3: of two unlike digests each has a digit that is lower. No program in sight.
-/
import Derived.Test.YtanplccigmihfaaGreatDoorW0
namespace Go.Pal

theorem beqT (a b : ByteArray) : (a.toList == b.toList) = true ↔ a = b := by
  rw [ByteArray.toList_eq, ByteArray.toList_eq, beq_iff_eq]
  constructor
  · intro h
    rw [ByteArray.ext_iff]
    exact Array.ext' h
  · rintro rfl; rfl
theorem beqF {a b : ByteArray} (h : a ≠ b) : (a.toList == b.toList) = false := by
  cases e : a.toList == b.toList
  · rfl
  · exact absurd ((beqT a b).1 e) h

theorem lackN_mono : ∀ (l m : List Nat), l.length = m.length → (∀ n ∈ l, n < 16) → (∀ i, m.getD i 0 ≤ l.getD i 0) → lackN l ≤ lackN m ∧ (lackN l = lackN m → l = m)
  | [], [], _, _, _ => ⟨Nat.le_refl _, fun _ => rfl⟩
  | [], _ :: _, h, _, _ => by simp at h
  | _ :: _, [], h, _, _ => by simp at h
  | a :: l, b :: m, h, ha, hi => by
    have h1 := lackN_mono l m (by simpa using h) (fun n hn => ha n (List.mem_cons_of_mem _ hn)) (fun i => by simpa using hi (i + 1))
    have h0 : b ≤ a := by simpa using hi 0
    have h2 := ha a (List.mem_cons_self ..)
    have e1 : lackN (a :: l) = (15 - a) + lackN l := by simp [lackN]
    have e2 : lackN (b :: m) = (15 - b) + lackN m := by simp [lackN]
    rw [e1, e2]
    refine ⟨by omega, fun he => ?_⟩
    rw [h1.2 (by omega), show a = b by omega]

theorem nibs_inj : ∀ (a b : List UInt8), nibs a = nibs b → a = b
  | [], [], _ => rfl
  | [], b :: m, h => by simp [nibs] at h
  | a :: l, [], h => by simp [nibs] at h
  | a :: l, b :: m, h => by
    have e1 : nibs (a :: l) = a.toNat / 16 :: a.toNat % 16 :: nibs l := by simp [nibs]
    have e2 : nibs (b :: m) = b.toNat / 16 :: b.toNat % 16 :: nibs m := by simp [nibs]
    rw [e1, e2] at h
    obtain ⟨h1, h2⟩ := List.cons.inj h
    obtain ⟨h3, h4⟩ := List.cons.inj h2
    rw [nibs_inj l m h4, show a = b from UInt8.toNat.inj (by omega)]

theorem getD_left (l m : List Nat) (i : Nat) (h : i < l.length) : (l ++ m).getD i 0 = l.getD i 0 := by
  rw [List.getD_eq_getElem?_getD, List.getD_eq_getElem?_getD, List.getElem?_append_left h]
theorem getD_right (l m : List Nat) (i : Nat) : (l ++ m).getD (l.length + i) 0 = m.getD i 0 := by
  rw [List.getD_eq_getElem?_getD, List.getD_eq_getElem?_getD, List.getElem?_append_right (by omega)]; congr 2; omega

theorem dig_low (a b : List UInt8) (ha : a.length = 32) (hb : b.length = 32) (h : ∀ i, i < 67 → (digL b).getD i 0 ≤ (digL a).getD i 0) : a = b := by
  have la : (nibs a).length = 64 := by rw [nibs_length]; omega
  have lb : (nibs b).length = 64 := by rw [nibs_length]; omega
  have hn : ∀ i, (nibs b).getD i 0 ≤ (nibs a).getD i 0 := by
    intro i
    by_cases hi : i < 64
    · have := h i (by omega)
      unfold digL at this
      rwa [getD_left _ _ _ (by omega), getD_left _ _ _ (by omega)] at this
    · rw [List.getD_eq_getElem?_getD, List.getElem?_eq_none (by omega)]; exact Nat.zero_le _
  have hc : ∀ i, i < 3 → [lackL b / 256, lackL b / 16 % 16, lackL b % 16].getD i 0 ≤ [lackL a / 256, lackL a / 16 % 16, lackL a % 16].getD i 0 := by
    intro i hi
    have := h (64 + i) (by omega)
    unfold digL at this
    have r1 := getD_right (nibs b) [lackL b / 256, lackL b / 16 % 16, lackL b % 16] i
    have r2 := getD_right (nibs a) [lackL a / 256, lackL a / 16 % 16, lackL a % 16] i
    rw [lb] at r1
    rw [la] at r2
    rw [← r1, ← r2]
    exact this
  have c0 : lackL b / 256 ≤ lackL a / 256 := hc 0 (by omega)
  have c1 : lackL b / 16 % 16 ≤ lackL a / 16 % 16 := hc 1 (by omega)
  have c2 : lackL b % 16 ≤ lackL a % 16 := hc 2 (by omega)
  have hm := lackN_mono (nibs a) (nibs b) (by omega) (nibs_lt a) hn
  rw [lackN_nibs, lackN_nibs] at hm
  exact nibs_inj a b (hm.2 (by omega))

/-- Is one of the first k lower? -/
def lessTo (l m : List Nat) (k : Nat) : Bool := (List.range k).any fun i => decide (l.getD i 0 < m.getD i 0)
theorem lessTo_succ (l m : List Nat) (k : Nat) : lessTo l m (k + 1) = (lessTo l m k || decide (l.getD k 0 < m.getD k 0)) := by
  simp [lessTo, List.range_succ]
theorem dig_less (a b : List UInt8) (ha : a.length = 32) (hb : b.length = 32) (hne : a ≠ b) : lessTo (digL a) (digL b) 67 = true := by
  by_cases h : ∃ i, i < 67 ∧ (digL a).getD i 0 < (digL b).getD i 0
  · obtain ⟨i, h1, h2⟩ := h
    simp only [lessTo, List.any_eq_true, List.mem_range, decide_eq_true_eq]
    exact ⟨i, h1, h2⟩
  · exact absurd (dig_low a b ha hb (fun i hi => by
      by_cases h3 : (digL b).getD i 0 ≤ (digL a).getD i 0
      · exact h3
      · exact absurd ⟨i, hi, by omega⟩ h)) hne
end Go.Pal
