/-
  Layer 12: slices.Sort of an own row; Heads.
-/
import Derived.Test.YtabongfoeoideaaDg8
namespace Go.Pal
open Go.RowKit
/-- Which entries are no other one's parents. -/
def headE (es : List (ByteArray × List ByteArray)) : List ByteArray := (es.map Prod.fst).filter (fun x => es.all (fun e => !memB (parE es e.1) x))
theorem mem_headE {es : List (ByteArray × List ByteArray)} {cs : ByteArray → List ByteArray} (hc : ChildOf es cs) (x : ByteArray) : x ∈ headE es ↔ (lookE es x).isSome = true ∧ cs x = [] := by
  unfold headE
  rw [List.mem_filter, ← lookE_isSome, List.all_eq_true]
  refine and_congr_right fun _ => ⟨fun h => ?_, fun h e he => ?_⟩
  · refine List.eq_nil_iff_forall_not_mem.2 fun y hy => ?_
    have hp := (hc.mem x y).1 hy
    obtain ⟨e, he, e2, _⟩ := mem_parE hp
    have h1 := h e he
    rw [e2, memB_iff.2 hp] at h1
    cases h1
  · cases hm : memB (parE es e.1) x with
    | false => rfl
    | true =>
      have := (hc.mem x e.1).2 (memB_iff.1 hm)
      rw [h] at this; cases this
theorem rise_length {l : List ByteArray} (h : l.Nodup) : (riseL l).length = l.length := nodup_length (rise_rising l).nodup h (fun s => mem_rise l s)
end Go.Pal
namespace Go.Proofs.Ytabongfoeoideaa
open Go.RowKit Go.Pal Go.Shelf Go.Sort
set_option linter.unusedVariables false

theorem sort_call {w : World} {base : Nat} {v : Value} {zs : List ByteArray} (hz : zs.length ≤ 1000000) (h : w.ownsRow base 9 1 v zs.length (zs.map Value.string)) :
    Calls Try.prog 41 #[v] w fun e w' => e = .returned (.tuple #[]) ∧ w'.ownsRow base 9 1 v zs.length ((sortL zs).map encStr) ∧ w.grownBy w' v.ownBlock := by
  have hsort := srtSorts 5
  have hlen : (zs.map fun f => f.data.toList).length = zs.length := by simp
  rcases id h.2 with ⟨rfl, hz0⟩ | ⟨gb, cp, cur, rfl, hbase, hgb, r1, r2, r3, r4⟩
  · have hss : zs = [] := List.eq_nil_of_length_eq_zero hz0
    subst hss
    refine (callsIn_wide.1 (hsort.2 none 0 w)).mono ?_
    rintro e w' ⟨rfl, rfl⟩
    exact ⟨rfl, by simpa [sortL] using h, ⟨rfl, rfl, rfl, Nat.le_refl _, fun _ _ _ => rfl⟩⟩
  · have hH : Sort.Holds encStr w gb 0 (zs.map fun f => f.data.toList).toArray := holds_of_block hgb (by rw [enc_data, hlen]; simpa using r4)
    have hgl : gb < w.heap.size := (Array.getElem?_eq_some_iff.1 hgb).1
    have cS := hsort.1 gb 0 cp (zs.map fun f => f.data.toList) w hH hgl (by rw [hlen]; omega)
    rw [hlen] at cS
    refine (callsIn_wide.1 cS).mono ?_
    rintro e w' ⟨rfl, nn, os, rfl⟩
    have hr := ownsRow_sorted (n := nn) (os := os) (ts := sortL zs) (ss := zs.map fun f => f.data.toList) (by simp [sortL]) hbase hgb (by rw [hlen]; exact r1) r2 r3
    rw [hlen] at hr
    exact ⟨rfl, hr, grownBy_sorted _⟩
theorem sort_set {w : World} {base : Nat} {v : Value} {zs : List ByteArray} (hz : zs.length ≤ 1000000) (hn : zs.Nodup) (h : w.ownsRow base 9 1 v zs.length (zs.map Value.string)) :
    Calls Try.prog 41 #[v] w fun e w' => e = .returned (.tuple #[]) ∧ w'.ownsRow base 9 1 v (riseL zs).length ((riseL zs).map Value.string) ∧ w.grownBy w' v.ownBlock := by
  refine (sort_call hz h).mono ?_
  rintro e w' ⟨rfl, h1, h2⟩
  have hp : (zs.map fun f => f.data.toList).Perm ((riseL zs).map fun f => f.data.toList) := ((List.perm_ext_iff_of_nodup hn (rise_rising zs).nodup).2 (fun s => (mem_rise zs s).symm)).map _
  have e1 : (sortL zs).map encStr = (riseL zs).map Value.string := sort_rising (rise_rising zs) hp
  rw [e1] at h1
  rw [rise_length hn]
  exact ⟨rfl, h1, h2⟩
end Go.Proofs.Ytabongfoeoideaa
