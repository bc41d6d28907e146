/-
  Contracts of package disk: rising, Names.
-/
import Derived.Test.YtffnkomnldgcaaaGreatDoorDk9
import Derived.Test.YtffnkomnldgcaaaGreatDoorSrt
import Derived.OwnWalkIn
import Derived.TacticsInMore
namespace Go.Proofs.YtffnkomnldgcaaaGreatDoor
open Go.RowKit Go.Pal Go.Pal.Dk Go.Maps Go.Sort

def namesV (l : List Fl) : List Value := l.map fun f => .string f.name
theorem names_sorted {l : List Fl} (hs : SortedF l) {ss : List (List UInt8)} (hp : ss.Perm (l.map fun f => f.name.data.toList)) : (ss.mergeSort (fun x y => decide (x ≤ y))).map encStr = namesV l := by
  have h1 : ss.mergeSort leB = (l.map fun f => f.name.data.toList).mergeSort leB := mergeSort_of_perm hp
  have h2 : (l.map fun f => f.name.data.toList).mergeSort leB = l.map fun f => f.name.data.toList := by
    apply List.mergeSort_of_pairwise
    refine List.pairwise_map.2 (hs.imp ?_)
    intro a b hab
    simp only [decide_eq_true_eq]
    exact List.le_of_lt hab
  show (ss.mergeSort leB).map encStr = _
  rw [h1, h2, List.map_map]
  unfold namesV
  apply List.map_congr_left
  intro f _
  simp [encStr]
theorem keys_perm {w : World} {base D : Nat} {d : Dk} {L : Lay} (h : DkAt w base D d L) {b nn : Nat} {Dm : DataW Unit} (hown : w.ownsMap Tryz.prog 9 ptrElem b nn Dm) (hhas : ∀ n, Maps.has Dm (keyS n) = (atF d.files n).isSome) : (d.files.map fun f => f.name.data.toList).Perm (strKeys Dm) := by
  obtain ⟨es, hD, hpw, _⟩ := hown.entries (Maps.string_keyed Tryz.underlying9)
  obtain ⟨es', hD', hko⟩ := hown.keysOf
  obtain rfl : es = es' := by rw [hD] at hD'; simpa using hD'
  subst hD
  refine perm_strKeys hpw (fun p hp => by obtain ⟨v, hv⟩ := hko p hp; obtain ⟨x, _, hx, _⟩ := Maps.keyOf_str Tryz.underlying9 hv; exact ⟨x, hx⟩) ?_ (fun x => ?_)
  · refine List.pairwise_map.2 (h.good.sorted.imp ?_)
    intro a b hab e
    exact ltB_irrefl a.name (by have := hab; unfold ltB at this ⊢; rw [← e] at this; exact this)
  · have := hhas ⟨x.toArray⟩
    have e1 : keyS ⟨x.toArray⟩ = .string x := by simp [keyS]
    rw [e1] at this
    rw [this, Option.isSome_iff_exists]
    constructor
    · intro hx
      obtain ⟨f, hf, e⟩ := List.mem_map.1 hx
      refine ⟨f, ?_⟩
      have : f.name = ⟨x.toArray⟩ := data_inj (by simpa using e)
      rw [← this]
      exact atF_mem h.good.sorted hf
    · rintro ⟨f, hf⟩
      obtain ⟨hm, hn⟩ := atF_some hf
      exact List.mem_map.2 ⟨f, hm, by rw [hn]⟩

set_option maxHeartbeats 1000000 in
set_option maxRecDepth 100000 in
theorem rising_any {w : World} {base D : Nat} {d : Dk} {L : Lay} (h : DkAt w base D d L) (hlen : d.files.length ≤ 1000000000) :
    Calls Tryz.prog 27 #[.pointer (some ⟨D, 0, none⟩)] w fun e w' => (∃ v, e = .returned v ∧ w'.ownsRow w.heap.size 9 1 v d.files.length (namesV d.files)) ∧ Below w.heap.size w w' := by
  have c2 : w.cell? ⟨D, 2, none⟩ = some (.map L.map) := h.blk.cell 2
  have hmp := h.map
  unfold MapAt at hmp
  refine (callsIn_wide (n := 6)).1 ?_
  have hfK : Fence.wide.fn 43 := trivial
  have hfS : Fence.wide.fn 42 := trivial
  cases hb : L.map with
  | none =>
    rw [hb] at hmp c2
    have hnil : d.files = [] := hmp
    refine callsIn_of_wp Tryz.func27 rfl trivial ?_ rfl
    simp only [Tryz.ntmps27, List.size_toArray, List.length_cons, List.length_nil, Nat.reduceAdd, Nat.reduceSub, Array.replicate_succ, Array.replicate_zero, List.push_toArray, List.append_toArray, List.nil_append, List.cons_append]
    gi_wp2_with (first
      | (gi_at_call 43; refine (srt_keys _ _).mono ?_; rintro e w' ⟨rfl, rfl⟩)
      | (gi_at_call 42; refine (srt_none w).mono ?_; rintro e w' ⟨rfl, hb2⟩))
    go_ret
    refine ⟨⟨_, rfl, ?_⟩, ((Below.refl _ w).alloc (Nat.le_refl _) _).trans (hb2.mono (by simp))⟩
    rw [hnil]
    exact World.ownsRow_nil _ _ _ _
  | some b =>
    rw [hb] at hmp c2
    obtain ⟨Dm, hown, hat, hhas⟩ := hmp
    have hsz := hown.size_le
    have hpm := keys_perm h hown hhas
    have hst := h.good.sorted
    have hl1 : Maps.size Dm ≤ maxLen := by unfold maxLen; omega
    have hl2 : Maps.size Dm * 16 ≤ 140737488355328 := by omega
    clear h hat hhas
    refine callsIn_of_wp Tryz.func27 rfl trivial ?_ rfl
    simp only [Tryz.ntmps27, List.size_toArray, List.length_cons, List.length_nil, Nat.reduceAdd, Nat.reduceSub, Array.replicate_succ, Array.replicate_zero, List.push_toArray, List.append_toArray, List.nil_append, List.cons_append]
    gi_wp2_with (first
      | (gi_at_call 43; refine (srt_keys _ _).mono ?_; rintro e w' ⟨rfl, rfl⟩)
      | (gi_at_call 42; refine (srt_some b d.files.length Dm ptrElem w hown hl1 hl2).mono ?_; rintro e w' ⟨v, ss, rfl, hS, hrow, hnil, hb2⟩))
    go_ret
    refine ⟨⟨v, rfl, ?_⟩, ((Below.refl _ w).alloc (Nat.le_refl _) _).trans (hb2.mono (by simp))⟩
    have hp2 := hS.trans hpm.symm
    have hll := hp2.length_eq
    rw [names_sorted hst hp2, hll] at hrow
    simp only [List.length_map] at hrow
    exact own_weak hrow (by simp)
end Go.Proofs.YtffnkomnldgcaaaGreatDoor
