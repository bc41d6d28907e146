/-
  slices.Values, Sorted and Compact of texts, as calls: what stays is each text once, rising.
-/
import Derived.Test.YtabongfoeoideaaDvM
import Derived.Test.YtabongfoeoideaaDgL
import Derived.Test.YtabongfoeoideaaMp
namespace Go.Proofs.Ytabongfoeoideaa
open Go.RowKit Go.Pal Go.Sort Go.Shelf
set_option linter.unusedVariables false
theorem vals_call (a : Option Addr) (len cap : Nat) (w : World) :
    Calls Try.prog 35 #[.slice a len cap] w fun e w' => e = .returned (.func (.func 45) #[] #[.pointer (some ⟨w.heap.size, 0, none⟩)]) ∧ w' = w.alloc (.cells #[.slice a len cap] 30) :=
  callsIn_wide.1 (vals_in Fence.wide 6 trivial rfl a len cap w)
theorem svals_call (Bs cap : Nat) (a : Option Addr) (zs : List ByteArray) (hreach : zs.length ≤ 1000000) (w : World) (hBs : Bs < w.heap.size)
    (hc : w.cell? ⟨Bs, 0, none⟩ = some (.slice a zs.length cap)) (hI : StrRow w a zs) :
    Calls Try.prog 34 #[.func (.func 45) #[] #[.pointer (some ⟨Bs, 0, none⟩)]] w fun e W' => ∃ v, e = .returned v ∧ W'.ownsRow (w.heap.size + 1) 9 1 v zs.length ((sortL zs).map encStr) ∧ Below w.heap.size w W' :=
  callsIn_wide.1 (sor_vals 6 (by omega) Bs cap a zs hreach w hBs hc hI)
theorem own_take {w : World} {base n k : Nat} {t : TypeId} {g : Option Addr} {cap : Nat} {l : List Value} (h : w.ownsRow base t 1 (.slice g n cap) n l) (hk : k ≤ n) (h0 : 0 < n) : w.ownsRow base t 1 (.slice g k cap) k (l.take k) := by
  obtain ⟨h1, h2⟩ := h
  refine ⟨by rw [List.length_take]; omega, ?_⟩
  rcases h2 with ⟨e, h3⟩ | ⟨g', cap', cur, e, h3, h4, h5, h6, h7, h8⟩
  · omega
  · cases e
    refine .inr ⟨g', cap, cur, rfl, h3, h4, by omega, h6, h7, ?_⟩
    rw [← h8, List.take_take]
    congr 1
    omega
theorem grow_none (w : World) : grow w #[] = w := by simp [grow]
theorem comp_call {w : World} {base : Nat} {v : Value} {zs : List ByteArray} (hz : zs.length ≤ 1000000) (h : w.ownsRow base 9 1 v zs.length ((sortL zs).map encStr)) :
    Calls Try.prog 33 #[v] w fun e w' => ∃ v', e = .returned v' ∧ w'.ownsRow base 9 1 v' (riseL zs).length ((riseL zs).map Value.string) ∧ w.grownBy w' v.ownBlock := by
  have hsl : (sortL zs).length = zs.length := by simp [sortL]
  rcases h.2 with ⟨rfl, h0⟩ | ⟨g, cap, cur, rfl, hb, hg, h1, h2, h3, h4⟩
  · have hzs : zs = [] := List.eq_nil_of_length_eq_zero h0
    subst hzs
    refine (Any.slices_Compact_string_empty dgComp none 0 w).mono ?_
    rintro e w' ⟨rfl, rfl⟩
    exact ⟨_, rfl, World.ownsRow_nil _ _ _ _, World.grownBy.refl _ _⟩
  · by_cases h0 : zs.length = 0
    · have hzs : zs = [] := List.eq_nil_of_length_eq_zero h0
      subst hzs
      refine (Any.slices_Compact_string_empty dgComp (some ⟨g, 0, none⟩) cap w).mono ?_
      rintro e w' ⟨rfl, rfl⟩
      exact ⟨_, rfl, by simpa [sortL, riseL] using h, World.grownBy.refl _ _⟩
    · have hH : Sort.Holds encStr w g 0 (sortL zs).toArray := holds_of_block hg (by rw [hsl]; simpa using h4)
      have hc := Any.slices_Compact_string dgComp g 0 cap (sortL zs) w hH (by rw [hsl]; omega) (by rw [hsl]; exact h1)
      rw [hsl, compact_rise] at hc
      have hrl := rise_le zs
      refine hc.mono ?_
      rintro e w' ⟨rfl, q, rfl⟩
      have hr := ownsRow_sorted (n := q) (os := #[]) (ts := ((riseL zs).map fun f => f.data.toList) ++ List.replicate (zs.length - ((riseL zs).map fun f => f.data.toList).length) []) (ss := sortL zs) (by simp [hsl]; omega) hb hg (by rw [hsl]; exact h1) h2 h3
      rw [grow_none, hsl] at hr
      have hr2 := own_take hr (k := (riseL zs).length) hrl (by omega)
      rw [List.map_append, List.take_append_of_le_length (by simp), enc_data, List.take_of_length_le (by simp)] at hr2
      refine ⟨_, rfl, by simpa using hr2, ?_⟩
      have hgr := grownBy_sorted (w := w) (n := q) (os := #[]) (g := g) (((riseL zs).map fun (f : ByteArray) => f.data.toList) ++ List.replicate (zs.length - ((riseL zs).map fun (f : ByteArray) => f.data.toList).length) []).toArray
      rw [grow_none] at hgr
      exact hgr
end Go.Proofs.Ytabongfoeoideaa
