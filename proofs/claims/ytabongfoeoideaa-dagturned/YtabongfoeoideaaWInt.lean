/-
  Rows of ints among a law's arguments, opened.
-/
import Derived.Test.YtabongfoeoideaaWOp
import Derived.ProofKit
import Derived.OpenShut
import Derived.ShutString
import Derived.ChangeSlices
import Derived.Deep.Slices
namespace Go.Proofs.Ytabongfoeoideaa
open Go.ChangeShapes Go.WideShapes Go.ChangeAt Go.RowKit Go.Pal

def IntRow (w : World) (a : Option Addr) (l : List Int) : Prop := l = [] ∨ ∃ b off, a = some ⟨b, off, none⟩ ∧ b < w.heap.size ∧ ∀ i, i < l.length → w.cell? ⟨b, off + i, none⟩ = some (.int .i64 (l.getD i 0))

/-- Ints that may be. -/
def IntsOk (l : List Int) : Prop := l.length ≤ maxLen ∧ ∀ x ∈ l, -9223372036854775808 ≤ x ∧ x ≤ 9223372036854775807
theorem ints_of {H : Type} {enc : TypeId × Value → H} {W : World} {fuel : Nat} {v : Value} {x : DataW H × List MemPlace} (h : DataW.trod enc Try.prog W 0 (fun _ => true) true fuel 46 [v] = some x) :
    ∃ (a : Option Addr) (l : List Int) (cap : Nat), v = .slice a l.length cap ∧ IntRow W a l ∧ IntsOk l := by
  have cl : Try.prog.cellsOf 3 = 1 := by kernel_rfl
  rcases open_ints Try.underlying46 Try.underlying3 cl h with ⟨h2, _⟩ | ⟨a, len, cap, zs, h2, _, hlc, hcm, hz, _, hcell, hws⟩
  · simp only [List.cons.injEq, and_true] at h2
    subst h2
    exact ⟨none, [], 0, rfl, .inl rfl, Nat.zero_le _, fun x hx => by cases hx⟩
  · simp only [List.cons.injEq, and_true] at h2
    subst h2
    have hz2 : zs.length = cap := hz.trans (if_pos rfl)
    have hln : (zs.take len).length = len := by simp; omega
    refine ⟨some a, zs.take len, cap, by rw [hln], ?_, by rw [hln]; omega, fun x hx => ?_⟩
    · by_cases hz0 : len = 0
      · exact .inl (by simp only [hz0, List.take_zero])
      obtain ⟨b, off, spot⟩ := a
      have hspot : spot = none := by simpa [Addr.add] using World.cell?_spot (hcell 0 (by omega))
      subst hspot
      refine .inr ⟨b, off, rfl, ?_, fun i hi => ?_⟩
      · have hc := hcell 0 (by omega)
        rcases Nat.lt_or_ge b W.heap.size with h1 | h1
        · exact h1
        · simp [World.cell?, Addr.add, Array.getElem?_eq_none h1] at hc
      · have hi' : i < len := by rw [hln] at hi; exact hi
        have hc := hcell i (by omega)
        rw [Go.WideShapes.add_plain] at hc
        rw [hc]
        simp [List.getD, hi']
    · exact bounds_i64 (hws x (List.mem_of_mem_take hx))
end Go.Proofs.Ytabongfoeoideaa
