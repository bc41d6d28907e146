/-
  slices.Collect and Sorted of slices.Values of texts.
-/
import Derived.Test.YtabongfoeoideaaDv2
namespace Go.Proofs.Ytabongfoeoideaa
open Go.RowKit Go.Shelf Go.Pal Go.Sort
attribute [local go_sem] Oper.semAt_some
set_option linter.unusedVariables false

set_option maxRecDepth 100000 in
set_option maxHeartbeats 2000000 in
theorem col_vals (F : Fence) (n : Nat) (h8 : F.fn 44) (h11 : F.fn 55) (hf : F.fn 45) (hro : F.round = none) (hn : 4 ≤ n) (Bs cap : Nat) (a : Option Addr) (zs : List ByteArray) (hreach : zs.length ≤ 1000000) (w : World) (hBs : Bs < w.heap.size)
    (hc : w.cell? ⟨Bs, 0, none⟩ = some (.slice a zs.length cap)) (hI : StrRow w a zs) :
    CallsIn F n Try.prog 44 #[.func (.func 45) #[] #[.pointer (some ⟨Bs, 0, none⟩)]] w fun e W' => ∃ v, e = .returned v ∧ W'.ownsRow (w.heap.size + 1) 9 1 v zs.length (zs.map Value.string) ∧ Below w.heap.size w W' := by
  have h1 : 1 ≤ n := by omega
  refine callsIn_of_wp Try.func44 rfl h8 ?_ hro
  simp only [Try.ntmps44, List.size_toArray, List.length_cons, List.length_nil, Nat.reduceAdd, Nat.reduceSub, Array.replicate_succ, Array.replicate_zero, List.push_toArray, List.append_toArray, List.nil_append, List.cons_append]
  gi_wp2_with (gi_at_call 55; refine (app_vals F (n - 1) h11 hf hro (by omega) Bs cap a zs hreach _ hBs hc hI).mono ?_; rintro e W ⟨v, rfl, ho, hb⟩)
  go_ret
  exact ⟨v, rfl, ho, hb⟩

/-- The texts in their order, as often as they stand there. -/
def sortL (zs : List ByteArray) : List (List UInt8) := (zs.map fun f => f.data.toList).mergeSort (fun x y => decide (x ≤ y))
theorem enc_data (zs : List ByteArray) : (zs.map fun f => f.data.toList).map encStr = zs.map Value.string := by
  rw [List.map_map]
  apply List.map_congr_left
  intro f _
  simp [encStr]
set_option maxRecDepth 100000 in
set_option maxHeartbeats 2000000 in
theorem sor_vals (n : Nat) (hn : 5 ≤ n) (Bs cap : Nat) (a : Option Addr) (zs : List ByteArray) (hreach : zs.length ≤ 1000000) (w : World) (hBs : Bs < w.heap.size)
    (hc : w.cell? ⟨Bs, 0, none⟩ = some (.slice a zs.length cap)) (hI : StrRow w a zs) :
    CallsIn Fence.wide n Try.prog 34 #[.func (.func 45) #[] #[.pointer (some ⟨Bs, 0, none⟩)]] w fun e W' => ∃ v, e = .returned v ∧ W'.ownsRow (w.heap.size + 1) 9 1 v zs.length ((sortL zs).map encStr) ∧ Below w.heap.size w W' := by
  have hsort := srtSorts (n - 1)
  have f63 : Fence.wide.fn 44 := trivial
  have f57 : Fence.wide.fn 41 := trivial
  have h1 : 1 ≤ n := by omega
  refine callsIn_of_wp Try.func34 rfl trivial ?_ rfl
  simp only [Try.ntmps34, List.size_toArray, List.length_cons, List.length_nil, Nat.reduceAdd, Nat.reduceSub, Array.replicate_succ, Array.replicate_zero, List.push_toArray, List.append_toArray, List.nil_append, List.cons_append]
  gi_wp2_with (gi_at_call 44; refine (col_vals Fence.wide (n - 1) trivial trivial trivial rfl (by omega) Bs cap a zs hreach _ hBs hc hI).mono ?_; rintro e W ⟨v, rfl, ho, hb⟩)
  have hlen : (zs.map fun f => f.data.toList).length = zs.length := by simp
  rcases ho.2 with ⟨rfl, hz⟩ | ⟨gb, cp, cur, rfl, hbase, hgb, r1, r2, r3, r4⟩
  · have hss : zs = [] := List.eq_nil_of_length_eq_zero hz
    subst hss
    gi_wp2_with (gi_at_call 41; refine (hsort.2 none 0 W).mono ?_; rintro e w' ⟨rfl, rfl⟩)
    go_ret
    exact ⟨_, rfl, by simpa [sortL] using ho, hb⟩
  · have hH : Sort.Holds encStr W gb 0 (zs.map fun f => f.data.toList).toArray := holds_of_block hgb (by rw [enc_data, hlen]; simpa using r4)
    have hgl : gb < W.heap.size := (Array.getElem?_eq_some_iff.1 hgb).1
    have cS := hsort.1 gb 0 cp (zs.map fun f => f.data.toList) W hH hgl (by rw [hlen]; omega)
    rw [hlen] at cS
    gi_wp2_with (gi_at_call 41; refine cS.mono ?_; rintro e w' ⟨rfl, nn, os, rfl⟩)
    go_ret
    have hr := ownsRow_sorted (n := nn) (os := os) (ts := sortL zs) (ss := zs.map fun f => f.data.toList) (by simp [sortL]) hbase hgb (by rw [hlen]; exact r1) r2 r3
    rw [hlen] at hr
    exact ⟨_, rfl, hr, hb.grown (grownBy_sorted _) hb.size (fun j hj => by cases hj; omega)⟩
end Go.Proofs.Ytabongfoeoideaa
