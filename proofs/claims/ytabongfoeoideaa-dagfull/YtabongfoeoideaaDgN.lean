/-
  Layer 12: the law's own name; a chain of such.
-/
import Derived.Test.YtabongfoeoideaaOct2
import Derived.Test.YtabongfoeoideaaDgl
namespace Go.Pal
open Go.RowKit
def nm (i : Nat) : ByteArray := ⟨#[UInt8.ofNat (97 + i / 100), UInt8.ofNat (97 + i / 10 % 10), UInt8.ofNat (97 + i % 10)]⟩
theorem nm_nums (i : Nat) : strOfNums [97 + (i : Int) / 100, 97 + (i : Int) / 10 % 10, 97 + (i : Int) % 10] = nm i := by
  have h1 : (97 + (i : Int) / 100).toNat = 97 + i / 100 := by omega
  have h2 : (97 + (i : Int) / 10 % 10).toNat = 97 + i / 10 % 10 := by omega
  have h3 : (97 + (i : Int) % 10).toNat = 97 + i % 10 := by omega
  simp only [strOfNums, List.map_cons, List.map_nil, h1, h2, h3, nm]
theorem u8_inj {a b : Nat} (ha : a < 256) (hb : b < 256) (h : UInt8.ofNat a = UInt8.ofNat b) : a = b := by
  have := congrArg UInt8.toNat h
  simp only [UInt8.toNat_ofNat'] at this
  omega
theorem nm_inj {i j : Nat} (hi : i < 1000) (hj : j < 1000) (h : nm i = nm j) : i = j := by
  unfold nm at h
  injection h with h
  have h0 := congrArg Array.toList h
  simp only [List.cons.injEq, and_true] at h0
  obtain ⟨h1, h2, h3⟩ := h0
  have h1 := u8_inj (by omega) (by omega) h1
  have h2 := u8_inj (by omega) (by omega) h2
  have h3 := u8_inj (by omega) (by omega) h3
  omega
theorem nm_size (i : Nat) : (nm i).size = 3 := rfl
def chPar (i : Nat) : List ByteArray := if i = 0 then [] else [nm (i - 1)]
def chain (n : Nat) : List (ByteArray × List ByteArray) := (List.range n).map (fun i => entOf (nm i) (chPar i))
theorem chain_len (n : Nat) : (chain n).length = n := by simp [chain]
theorem chain_there {n j : Nat} (hn : n ≤ 300) (hj : j < 400) : (lookE (chain n) (nm j)).isSome = decide (j < n) := by
  rw [Bool.eq_iff_iff, lookE_isSome, decide_eq_true_iff]
  unfold chain
  rw [List.map_map]
  constructor
  · intro h
    obtain ⟨i, hi, e⟩ := List.mem_map.1 h
    have hi := List.mem_range.1 hi
    have := nm_inj (by omega) (by omega) (show nm i = nm j from e)
    omega
  · intro h; exact List.mem_map.2 ⟨j, List.mem_range.2 h, rfl⟩
theorem rise_par (i : Nat) : riseL (chPar i) = chPar i := by
  unfold chPar; split <;> rfl
theorem chain_addC {n : Nat} (hn : n < 300) : addC (chain n) (nm n) (chPar n) = 0 := by
  unfold addC
  rw [nm_size, if_neg (by omega), chain_there (by omega) (by omega), chain_len, decide_eq_false (Nat.lt_irrefl n), if_neg Bool.false_ne_true, if_neg (by omega)]
  unfold chPar
  split
  · rfl
  · rw [List.all_cons, chain_there (by omega) (by omega), decide_eq_true (by omega)]; rfl
theorem chain_addE {n : Nat} (hn : n < 300) : addE (chain n) (nm n) (chPar n) = chain (n + 1) := by
  unfold addE
  rw [if_pos (chain_addC hn), rise_par]
  unfold chain
  rw [List.range_succ, List.map_append]; rfl
theorem chain_full {i : Nat} (hi : 300 ≤ i) (h4 : i < 400) (ps : List ByteArray) : addC (chain 300) (nm i) ps = 3 ∧ addE (chain 300) (nm i) ps = chain 300 := by
  have h : addC (chain 300) (nm i) ps = 3 := by
    unfold addC
    rw [nm_size, if_neg (by omega), chain_there (Nat.le_refl _) h4, chain_len, decide_eq_false (by omega), if_neg Bool.false_ne_true, if_pos (Nat.le_refl _)]
  exact ⟨h, by unfold addE; rw [h]; rfl⟩
theorem chain_par {n j : Nat} (hn : n ≤ 300) (hj : j < n) : parE (chain n) (nm j) = chPar j := by
  unfold parE
  cases hl : lookE (chain n) (nm j) with
  | none =>
    have := chain_there (j := j) hn (by omega)
    rw [hl, decide_eq_true hj] at this; cases this
  | some e =>
    obtain ⟨h1, h2⟩ := lookE_some hl
    obtain ⟨i, hi, rfl⟩ := List.mem_map.1 h1
    have hi := List.mem_range.1 hi
    have := nm_inj (by omega) (by omega) (show nm i = nm j from h2)
    subst this; rfl
theorem chain_head {n : Nat} (h0 : 0 < n) (hn : n ≤ 300) : headsL (chain n) = [nm (n - 1)] := by
  unfold headsL
  refine rising_unique (rise_rising _) (by unfold Rising; simp) fun x => ?_
  rw [mem_rise]
  unfold headE
  rw [List.mem_filter, List.mem_singleton, List.all_eq_true]
  constructor
  · rintro ⟨h1, h2⟩
    obtain ⟨e, he, rfl⟩ := List.mem_map.1 h1
    obtain ⟨i, hi, rfl⟩ := List.mem_map.1 he
    have hi := List.mem_range.1 hi
    by_cases hlast : i = n - 1
    · rw [hlast]; rfl
    · exfalso
      have := h2 (entOf (nm (i + 1)) (chPar (i + 1))) (List.mem_map.2 ⟨i + 1, List.mem_range.2 (by omega), rfl⟩)
      rw [show (entOf (nm (i + 1)) (chPar (i + 1))).1 = nm (i + 1) from rfl, chain_par hn (by omega)] at this
      rw [memB_iff.2 (show (entOf (nm i) (chPar i)).fst ∈ chPar (i + 1) by unfold chPar; rw [if_neg (by omega)]; simp [entOf])] at this
      cases this
  · rintro rfl
    refine ⟨List.mem_map.2 ⟨_, List.mem_map.2 ⟨n - 1, List.mem_range.2 (by omega), rfl⟩, rfl⟩, fun e he => ?_⟩
    obtain ⟨i, hi, rfl⟩ := List.mem_map.1 he
    have hi := List.mem_range.1 hi
    rw [show (entOf (nm i) (chPar i)).1 = nm i from rfl, chain_par hn hi]
    rw [memF.2 (fun h => by
      unfold chPar at h
      split at h
      · cases h
      · have := nm_inj (by omega) (by omega) (List.mem_singleton.1 h)
        omega)]; rfl
end Go.Pal
namespace Go.Proofs.Ytabongfoeoideaa
open Go.RowKit Go.Pal Go.Shelf
set_option linter.unusedVariables false
set_option maxHeartbeats 1000000 in
set_option maxRecDepth 100000 in
theorem name_any {i : Nat} (hi : i < 400) (w : World) : Calls Try.prog 30 #[.int .i64 (i : Nat)] w fun e w' => e = .returned (.string (nm i)) ∧ Below w.heap.size w w' := by
  have hc : (convert 75 9 (.slice (some ⟨w.heap.size, 0, none⟩) 3 3)).run Try.prog (w.alloc (.cells #[.int .u8 (97 + (i : Int) / 100), .int .u8 (97 + (i : Int) / 10 % 10), .int .u8 (97 + (i : Int) % 10)] 5)) = .ok (.string (nm i)) (w.alloc (.cells #[.int .u8 (97 + (i : Int) / 100), .int .u8 (97 + (i : Int) / 10 % 10), .int .u8 (97 + (i : Int) % 10)] 5)) := by
    rw [← nm_nums]; exact conv_new w [97 + (i : Int) / 100, 97 + (i : Int) / 10 % 10, 97 + (i : Int) % 10] 3
  go_enter Try.func30, Try.ntmps30
  go_wp2
  go_ret
  exact ⟨rfl, alloc_new _ _⟩
end Go.Proofs.Ytabongfoeoideaa
