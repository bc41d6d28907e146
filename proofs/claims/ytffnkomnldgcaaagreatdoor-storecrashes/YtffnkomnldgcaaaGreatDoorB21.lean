/-
  slices.Sorted(maps.Keys(m)) at the disk's own map: the library's contracts, laid at this translation.
  Contracts of package disk: rising, Names.
  Contracts of package disk: Names.
  Contract of Crash: the power goes, and comes.
  Rows of ints among a law's arguments, opened.
-/
import Derived.Shelf.SlIter.Nil
import Derived.Shelf.SortM.Plain
import Derived.Shelf.SortM.SortNone
import Derived.Ground.GgzProg
import Derived.Ground.SlgmProg
import Derived.Test.YtffnkomnldgcaaaGreatDoorRows
import Derived.Test.YtffnkomnldgcaaaGreatDoorDk9
import Derived.OwnWalkIn
import Derived.TacticsInMore
import Derived.ProofKit
import Derived.OpenShut
import Derived.ShutString
import Derived.ChangeSlices
import Derived.Deep.Slices
namespace Go.Proofs.YtffnkomnldgcaaaGreatDoor
open Go.Shelf
def srtKeys_ren : Go.Shelf.Ren := ⟨fun | 7 => 43 | 10 => 56 | n => n, fun | 23 => 52 | 26 => 9 | 3 => 68 | 28 => 83 | 0 => 0 | 27 => 82 | 33 => 60 | 4 => 4 | n => n, fun | n => n⟩
theorem srtKeys : Go.Proofs.SlLaysZ.n7 Tryz.prog srtKeys_ren := {
  mixed := by kernel_rfl
  f7 := ⟨Tryz.f43.name, by decide, Tryz.func43.trans (congrArg some (by kernel_rfl))⟩
  f10 := ⟨Tryz.f56.name, by decide, Tryz.func56.trans (congrArg some (by kernel_rfl))⟩
  t0 := Tryz.underlying0
  a0 := Tryz.isAgg0
  z0 := Tryz.sizeOf0
  v0 := Tryz.zeroValue0
  t4 := Tryz.underlying4
  a4 := Tryz.isAgg4
  z4 := Tryz.sizeOf4
  v4 := Tryz.zeroValue4
  t23 := Tryz.underlying52
  a23 := Tryz.isAgg52
  z23 := Tryz.sizeOf52
  v23 := Tryz.zeroValue52
  t26 := Tryz.underlying9
  a26 := Tryz.isAgg9
  z26 := Tryz.sizeOf9
  v26 := Tryz.zeroValue9
  t27 := Tryz.underlying82
  a27 := Tryz.isAgg82
  z27 := Tryz.sizeOf82
  v27 := Tryz.zeroValue82
  t28 := Tryz.underlying83
  a28 := Tryz.isAgg83
  z28 := Tryz.sizeOf83
  v28 := Tryz.zeroValue83
  t33 := Tryz.underlying60
  a33 := Tryz.isAgg60
  z33 := Tryz.sizeOf60
  v33 := Tryz.zeroValue60 }
def srtSorted_ren : Go.Shelf.Ren := ⟨fun | 6 => 42 | 8 => 54 | 9 => 55 | 11 => 68 | 13 => 70 | 12 => 69 | 23 => 86 | 24 => 87 | 14 => 77 | 15 => 78 | 16 => 79 | 17 => 80 | 18 => 81 | 19 => 82 | 20 => 83 | 21 => 84 | 22 => 85 | 25 => 90 | 26 => 91 | 27 => 92 | 28 => 93 | 29 => 94 | 30 => 95 | 31 => 101 | n => n, fun | 26 => 9 | 28 => 83 | 24 => 34 | 0 => 0 | 3 => 3 | 37 => 33 | 48 => 107 | 50 => 103 | 4 => 4 | 40 => 112 | 39 => 111 | 45 => 117 | 5 => 5 | 9 => 9 | 51 => 123 | 55 => 127 | 57 => 134 | 58 => 135 | 33 => 60 | n => n, fun | n => n⟩
theorem srtSorted : Go.Proofs.SlLaysZ.n6 Tryz.prog srtSorted_ren := {
  mixed := by kernel_rfl
  f6 := ⟨Tryz.f42.name, by decide, Tryz.func42.trans (congrArg some (by kernel_rfl))⟩
  f8 := ⟨Tryz.f54.name, by decide, Tryz.func54.trans (congrArg some (by kernel_rfl))⟩
  f11 := ⟨Tryz.f68.name, by decide, Tryz.func68.trans (congrArg some (by kernel_rfl))⟩
  t0 := Tryz.underlying0
  a0 := Tryz.isAgg0
  z0 := Tryz.sizeOf0
  v0 := Tryz.zeroValue0
  t24 := Tryz.underlying34
  a24 := Tryz.isAgg34
  z24 := Tryz.sizeOf34
  v24 := Tryz.zeroValue34
  t26 := Tryz.underlying9
  a26 := Tryz.isAgg9
  z26 := Tryz.sizeOf9
  v26 := Tryz.zeroValue9
  t28 := Tryz.underlying83
  a28 := Tryz.isAgg83
  z28 := Tryz.sizeOf83
  v28 := Tryz.zeroValue83
  i26 := by kernel_rfl }
def srtSort_ren : Go.Shelf.Ren := ⟨fun | 6 => 55 | 8 => 70 | 9 => 69 | 19 => 86 | 20 => 87 | 21 => 77 | 22 => 78 | 23 => 79 | 24 => 80 | 25 => 81 | 26 => 82 | 27 => 83 | 28 => 84 | 29 => 85 | 36 => 90 | 31 => 91 | 32 => 92 | 37 => 93 | 38 => 94 | 39 => 95 | 41 => 101 | n => n, fun | 27 => 34 | 29 => 9 | 3 => 3 | 32 => 33 | 26 => 34 | 0 => 0 | 44 => 107 | 46 => 103 | 4 => 4 | 36 => 112 | 35 => 111 | 41 => 117 | 5 => 5 | 9 => 9 | 53 => 123 | 57 => 127 | 63 => 134 | 64 => 135 | n => n, fun | n => n⟩
theorem srtSort : Go.Proofs.SlLaysM.n6 Tryz.prog srtSort_ren := {
  mixed := by kernel_rfl
  f6 := ⟨Tryz.f55.name, by decide, Tryz.func55.trans (congrArg some (by kernel_rfl))⟩
  f8 := Tryz.func70.trans (congrArg some (by kernel_rfl))
  f9 := ⟨Tryz.f69.name, by decide, Tryz.func69.trans (congrArg some (by kernel_rfl))⟩
  f19 := Tryz.func86.trans (congrArg some (by kernel_rfl))
  f20 := Tryz.func87.trans (congrArg some (by kernel_rfl))
  f21 := ⟨Tryz.f77.name, by decide, Tryz.func77.trans (congrArg some (by kernel_rfl))⟩
  f22 := ⟨Tryz.f78.name, by decide, Tryz.func78.trans (congrArg some (by kernel_rfl))⟩
  f23 := ⟨Tryz.f79.name, by decide, Tryz.func79.trans (congrArg some (by kernel_rfl))⟩
  f24 := ⟨Tryz.f80.name, by decide, Tryz.func80.trans (congrArg some (by kernel_rfl))⟩
  f25 := ⟨Tryz.f81.name, by decide, Tryz.func81.trans (congrArg some (by kernel_rfl))⟩
  f26 := ⟨Tryz.f82.name, by decide, Tryz.func82.trans (congrArg some (by kernel_rfl))⟩
  f27 := ⟨Tryz.f83.name, by decide, Tryz.func83.trans (congrArg some (by kernel_rfl))⟩
  f28 := ⟨Tryz.f84.name, by decide, Tryz.func84.trans (congrArg some (by kernel_rfl))⟩
  f29 := ⟨Tryz.f85.name, by decide, Tryz.func85.trans (congrArg some (by kernel_rfl))⟩
  f31 := Tryz.func91.trans (congrArg some (by kernel_rfl))
  f32 := Tryz.func92.trans (congrArg some (by kernel_rfl))
  f36 := ⟨Tryz.f90.name, by decide, Tryz.func90.trans (congrArg some (by kernel_rfl))⟩
  f37 := ⟨Tryz.f93.name, by decide, Tryz.func93.trans (congrArg some (by kernel_rfl))⟩
  f38 := ⟨Tryz.f94.name, by decide, Tryz.func94.trans (congrArg some (by kernel_rfl))⟩
  f39 := ⟨Tryz.f95.name, by decide, Tryz.func95.trans (congrArg some (by kernel_rfl))⟩
  f41 := ⟨Tryz.f101.name, by decide, Tryz.func101.trans (congrArg some (by kernel_rfl))⟩
  t0 := Tryz.underlying0
  a0 := Tryz.isAgg0
  z0 := Tryz.sizeOf0
  v0 := Tryz.zeroValue0
  t3 := Tryz.underlying3
  a3 := Tryz.isAgg3
  z3 := Tryz.sizeOf3
  v3 := Tryz.zeroValue3
  t4 := Tryz.underlying4
  a4 := Tryz.isAgg4
  z4 := Tryz.sizeOf4
  v4 := Tryz.zeroValue4
  t5 := Tryz.underlying5
  a5 := Tryz.isAgg5
  z5 := Tryz.sizeOf5
  v5 := Tryz.zeroValue5
  t9 := Tryz.underlying9
  a9 := Tryz.isAgg9
  z9 := Tryz.sizeOf9
  v9 := Tryz.zeroValue9
  t26 := Tryz.underlying34
  a26 := Tryz.isAgg34
  z26 := Tryz.sizeOf34
  v26 := Tryz.zeroValue34
  t27 := Tryz.underlying34
  a27 := Tryz.isAgg34
  z27 := Tryz.sizeOf34
  v27 := Tryz.zeroValue34
  t29 := Tryz.underlying9
  a29 := Tryz.isAgg9
  z29 := Tryz.sizeOf9
  v29 := Tryz.zeroValue9
  t32 := Tryz.underlying33
  a32 := Tryz.isAgg33
  z32 := Tryz.sizeOf33
  v32 := Tryz.zeroValue33
  t35 := Tryz.underlying111
  a35 := Tryz.isAgg111
  z35 := Tryz.sizeOf111
  v35 := Tryz.zeroValue111
  t36 := Tryz.underlying112
  a36 := Tryz.isAgg112
  z36 := Tryz.sizeOf112
  v36 := Tryz.zeroValue112
  t41 := Tryz.underlying117
  a41 := Tryz.isAgg117
  z41 := Tryz.sizeOf117
  v41 := Tryz.zeroValue117
  t44 := Tryz.underlying107
  a44 := Tryz.isAgg107
  z44 := Tryz.sizeOf107
  v44 := Tryz.zeroValue107
  t46 := Tryz.underlying103
  a46 := Tryz.isAgg103
  z46 := Tryz.sizeOf103
  v46 := Tryz.zeroValue103
  t53 := Tryz.underlying123
  a53 := Tryz.isAgg123
  z53 := Tryz.sizeOf123
  v53 := Tryz.zeroValue123
  t57 := Tryz.underlying127
  a57 := Tryz.isAgg127
  z57 := Tryz.sizeOf127
  v57 := Tryz.zeroValue127
  t63 := Tryz.underlying134
  a63 := Tryz.isAgg134
  z63 := Tryz.sizeOf134
  v63 := Tryz.zeroValue134
  t64 := Tryz.underlying135
  a64 := Tryz.isAgg135
  z64 := Tryz.sizeOf135
  v64 := Tryz.zeroValue135 }
end Go.Proofs.YtffnkomnldgcaaaGreatDoor
namespace Go.Proofs.YtffnkomnldgcaaaGreatDoor
open Go.RowKit Go.Maps Go.Sort Go.Shelf

theorem srtSorts (m : Nat) : AnyZ.SortsIn Tryz.prog srtSorted_ren Fence.wide m :=
  ⟨fun blk off cap ss W hH hblk hsz => callsIn_wide.2 (AnyM.slices_Sort_string srtSort blk off cap ss W hH hblk hsz),
   fun p cap W => callsIn_wide.2 (AnyM.slices_Sort_string_none srtSort p cap W)⟩
theorem srt_keys (mb : Option Nat) (W : World) : CallsIn Fence.wide 5 Tryz.prog 43 #[.map mb] W fun e w' => e = .returned (.func (.func 56) #[] #[.pointer (some ⟨W.heap.size, 0, none⟩)]) ∧ w' = W.alloc (.cells #[.map mb] 52) :=
  AnyZ.keys_in srtKeys Fence.wide 5 trivial rfl mb W
set_option maxHeartbeats 1000000 in
theorem srt_some {H : Type} (b nn : Nat) (D0 : DataW H) (R : Value → Option (DataW H × List MemPlace)) (w : World) (hown : w.ownsMap Tryz.prog 9 R b nn D0) (hmax : Maps.size D0 ≤ maxLen) (hbytes : Maps.size D0 * 16 ≤ 140737488355328) :
    CallsIn Fence.wide 5 Tryz.prog 42 #[.func (.func 56) #[] #[.pointer (some ⟨w.heap.size, 0, none⟩)]] (w.alloc (.cells #[.map (some b)] 52)) fun e w' => ∃ (v : Value) (ss : List (List UInt8)), e = .returned v ∧ ss.Perm (strKeys D0) ∧
      w'.ownsRow (w.alloc (.cells #[.map (some b)] 52)).heap.size 9 1 v ss.length ((ss.mergeSort (fun x y => decide (x ≤ y))).map encStr) ∧ (v = .slice none 0 0 ↔ ss = []) ∧ Below (w.alloc (.cells #[.map (some b)] 52)).heap.size (w.alloc (.cells #[.map (some b)] 52)) w' := by
  have hbl := hown.lt
  have hseq : SeqGives Fence.wide 2 Tryz.prog 56 #[.pointer (some ⟨w.heap.size, 0, none⟩)] encStr (fun ss => ss.Perm (strKeys D0)) (Maps.size D0) (w.alloc (.cells #[.map (some b)] 52)) :=
    AnyZ.keys_gives (ρ := srtKeys_ren) { srtKeys with } Fence.wide _ trivial rfl (by omega) w.heap.size b nn D0 _ (by simp) (by simp) (by
      obtain ⟨es, clock, hb, Ft, hs, hD⟩ := hown
      exact ⟨es, clock, (Below.heap_alloc _ _ b hbl).trans hb, Ft, hs, hD⟩)
  exact AnyZ.sorted_in srtSorted Fence.wide 5 trivial trivial trivial trivial rfl (by omega) (srtSorts _) (enters_of Tryz.func55 (by kernel_rfl) rfl) 56 #[.pointer (some ⟨w.heap.size, 0, none⟩)] trivial (enters_of Tryz.func56 (by kernel_rfl) rfl) _ _ hmax hbytes _ hseq
set_option maxHeartbeats 1000000 in
theorem srt_none (w : World) :
    CallsIn Fence.wide 5 Tryz.prog 42 #[.func (.func 56) #[] #[.pointer (some ⟨w.heap.size, 0, none⟩)]] (w.alloc (.cells #[.map none] 52)) fun e w' => e = .returned (.slice none 0 0) ∧ Below (w.alloc (.cells #[.map none] 52)).heap.size (w.alloc (.cells #[.map none] 52)) w' := by
  have hseq : SeqGives Fence.wide 2 Tryz.prog 56 #[.pointer (some ⟨w.heap.size, 0, none⟩)] encStr (fun ss : List (List UInt8) => ss = []) 0 (w.alloc (.cells #[.map none] 52)) :=
    AnyZ.keys_gives_nil (ρ := srtKeys_ren) { srtKeys with } Fence.wide _ trivial rfl w.heap.size _ (by simp) (by simp)
  have cS := AnyZ.sorted_in srtSorted Fence.wide 5 trivial trivial trivial trivial rfl (by omega) (srtSorts _) (enters_of Tryz.func55 (by kernel_rfl) rfl) 56 #[.pointer (some ⟨w.heap.size, 0, none⟩)] trivial (enters_of Tryz.func56 (by kernel_rfl) rfl) _ 0 (Nat.zero_le _) (by omega) _ hseq
  refine CallsIn.mono cS ?_
  rintro e w' ⟨v, ss, rfl, hs, hrow, hnil, hb⟩
  exact ⟨by rw [hnil.2 hs], hb⟩
end Go.Proofs.YtffnkomnldgcaaaGreatDoor
namespace Go.Proofs.YtffnkomnldgcaaaGreatDoor
open Go.RowKit Go.Pal Go.Pal.Dk Go.Maps Go.Sort

def namesV (l : List Fl) : List Value := l.map fun f => .string f.name
theorem names_sorted {l : List Fl} (hs : SortedF l) {ss : List (List UInt8)} (hp : ss.Perm (l.map fun f => f.name.data.toList)) : (ss.mergeSort (fun x y => decide (x ≤ y))).map encStr = namesV l := by
  have h1 : ss.mergeSort leB = (l.map fun f => f.name.data.toList).mergeSort leB := mergeSort_of_perm hp
  have h2 : (l.map fun f => f.name.data.toList).mergeSort leB = l.map fun f => f.name.data.toList := by
    apply List.mergeSort_of_pairwise
    refine List.pairwise_map.2 (hs.imp ?_)
    intro a b hab
    simp only [decide_eq_true_eq]
    exact List.le_of_lt hab
  show (ss.mergeSort leB).map encStr = _
  rw [h1, h2, List.map_map]
  unfold namesV
  apply List.map_congr_left
  intro f _
  simp [encStr]
theorem keys_perm {w : World} {base D : Nat} {d : Dk} {L : Lay} (h : DkAt w base D d L) {b nn : Nat} {Dm : DataW Unit} (hown : w.ownsMap Tryz.prog 9 ptrElem b nn Dm) (hhas : ∀ n, Maps.has Dm (keyS n) = (atF d.files n).isSome) : (d.files.map fun f => f.name.data.toList).Perm (strKeys Dm) := by
  obtain ⟨es, hD, hpw, _⟩ := hown.entries (Maps.string_keyed Tryz.underlying9)
  obtain ⟨es', hD', hko⟩ := hown.keysOf
  obtain rfl : es = es' := by rw [hD] at hD'; simpa using hD'
  subst hD
  refine perm_strKeys hpw (fun p hp => by obtain ⟨v, hv⟩ := hko p hp; obtain ⟨x, _, hx, _⟩ := Maps.keyOf_str Tryz.underlying9 hv; exact ⟨x, hx⟩) ?_ (fun x => ?_)
  · refine List.pairwise_map.2 (h.good.sorted.imp ?_)
    intro a b hab e
    exact ltB_irrefl a.name (by have := hab; unfold ltB at this ⊢; rw [← e] at this; exact this)
  · have := hhas ⟨x.toArray⟩
    have e1 : keyS ⟨x.toArray⟩ = .string x := by simp [keyS]
    rw [e1] at this
    rw [this, Option.isSome_iff_exists]
    constructor
    · intro hx
      obtain ⟨f, hf, e⟩ := List.mem_map.1 hx
      refine ⟨f, ?_⟩
      have : f.name = ⟨x.toArray⟩ := data_inj (by simpa using e)
      rw [← this]
      exact atF_mem h.good.sorted hf
    · rintro ⟨f, hf⟩
      obtain ⟨hm, hn⟩ := atF_some hf
      exact List.mem_map.2 ⟨f, hm, by rw [hn]⟩

set_option maxHeartbeats 1000000 in
set_option maxRecDepth 100000 in
theorem rising_any {w : World} {base D : Nat} {d : Dk} {L : Lay} (h : DkAt w base D d L) (hlen : d.files.length ≤ 1000000000) :
    Calls Tryz.prog 27 #[.pointer (some ⟨D, 0, none⟩)] w fun e w' => (∃ v, e = .returned v ∧ w'.ownsRow w.heap.size 9 1 v d.files.length (namesV d.files)) ∧ Below w.heap.size w w' := by
  have c2 : w.cell? ⟨D, 2, none⟩ = some (.map L.map) := h.blk.cell 2
  have hmp := h.map
  unfold MapAt at hmp
  refine (callsIn_wide (n := 6)).1 ?_
  have hfK : Fence.wide.fn 43 := trivial
  have hfS : Fence.wide.fn 42 := trivial
  cases hb : L.map with
  | none =>
    rw [hb] at hmp c2
    have hnil : d.files = [] := hmp
    refine callsIn_of_wp Tryz.func27 rfl trivial ?_ rfl
    simp only [Tryz.ntmps27, List.size_toArray, List.length_cons, List.length_nil, Nat.reduceAdd, Nat.reduceSub, Array.replicate_succ, Array.replicate_zero, List.push_toArray, List.append_toArray, List.nil_append, List.cons_append]
    gi_wp2_with (first
      | (gi_at_call 43; refine (srt_keys _ _).mono ?_; rintro e w' ⟨rfl, rfl⟩)
      | (gi_at_call 42; refine (srt_none w).mono ?_; rintro e w' ⟨rfl, hb2⟩))
    go_ret
    refine ⟨⟨_, rfl, ?_⟩, ((Below.refl _ w).alloc (Nat.le_refl _) _).trans (hb2.mono (by simp))⟩
    rw [hnil]
    exact World.ownsRow_nil _ _ _ _
  | some b =>
    rw [hb] at hmp c2
    obtain ⟨Dm, hown, hat, hhas⟩ := hmp
    have hsz := hown.size_le
    have hpm := keys_perm h hown hhas
    have hst := h.good.sorted
    have hl1 : Maps.size Dm ≤ maxLen := by unfold maxLen; omega
    have hl2 : Maps.size Dm * 16 ≤ 140737488355328 := by omega
    clear h hat hhas
    refine callsIn_of_wp Tryz.func27 rfl trivial ?_ rfl
    simp only [Tryz.ntmps27, List.size_toArray, List.length_cons, List.length_nil, Nat.reduceAdd, Nat.reduceSub, Array.replicate_succ, Array.replicate_zero, List.push_toArray, List.append_toArray, List.nil_append, List.cons_append]
    gi_wp2_with (first
      | (gi_at_call 43; refine (srt_keys _ _).mono ?_; rintro e w' ⟨rfl, rfl⟩)
      | (gi_at_call 42; refine (srt_some b d.files.length Dm ptrElem w hown hl1 hl2).mono ?_; rintro e w' ⟨v, ss, rfl, hS, hrow, hnil, hb2⟩))
    go_ret
    refine ⟨⟨v, rfl, ?_⟩, ((Below.refl _ w).alloc (Nat.le_refl _) _).trans (hb2.mono (by simp))⟩
    have hp2 := hS.trans hpm.symm
    have hll := hp2.length_eq
    rw [names_sorted hst hp2, hll] at hrow
    simp only [List.length_map] at hrow
    exact own_weak hrow (by simp)
end Go.Proofs.YtffnkomnldgcaaaGreatDoor
namespace Go.Proofs.YtffnkomnldgcaaaGreatDoor
open Go.RowKit Go.Pal Go.Pal.Dk Go.Maps Go.Sort

theorem own_cell {w : World} {base : Nat} {t : TypeId} {g n cap : Nat} {l : List Value} (h : w.ownsRow base t 1 (.slice (some ⟨g, 0, none⟩) n cap) n l) (k : Nat) (hk : k < n) : w.cell? ⟨g, k, none⟩ = l[k]? ∧ w.frozen? ⟨g, k, none⟩ = false := by
  rcases h.2 with ⟨h1, _⟩ | ⟨g', cap', cur, e, _, hh, _, _, _, ht⟩
  · cases h1
  · cases e
    refine ⟨?_, by simp [World.frozen?, hh]⟩
    have e1 : w.cell? ⟨g, k, none⟩ = cur.toList[k]? := by simp [World.cell?, hh]
    rw [e1, ← ht, List.getElem?_take_of_lt (by omega)]
theorem own_same {w : World} {base : Nat} {t : TypeId} {g n cap : Nat} {l : List Value} (h : w.ownsRow base t 1 (.slice (some ⟨g, 0, none⟩) n cap) n l) {k : Nat} {x : Value} (hx : w.cell? ⟨g, k, none⟩ = some x) : (w.setCell ⟨g, k, none⟩ x).ownsRow base t 1 (.slice (some ⟨g, 0, none⟩) n cap) n l := by
  refine own_kept h (fun b hb => ?_)
  obtain rfl : g = b := by simpa [Value.ownBlock] using hb
  rcases h.2 with ⟨h1, _⟩ | ⟨g', cap', cur, e, _, hh, _⟩
  · cases h1
  · cases e
    have e1 : cur[k]? = some x := by have := hx; simp [World.cell?, hh] at this; exact this
    obtain ⟨hlt, e2⟩ := Array.getElem?_eq_some_iff.1 e1
    have e3 : cur.setIfInBounds k x = cur := by
      apply Array.ext
      · simp
      · intro i h1 h2
        by_cases hi : k = i
        · subst hi; simp [e2]
        · rw [Array.getElem_setIfInBounds]; simp [hi]; exact h2
    simp [World.setCell, Array.getElem?_modify, hh, e3]
theorem namesV_get (l : List Fl) (k : Nat) (h : k < l.length) : (namesV l)[k]? = some (.string l[k].name) := by simp [namesV, h]

set_option maxHeartbeats 400000 in
set_option maxRecDepth 100000 in
theorem rising_nil (w : World) :
    Calls Tryz.prog 27 #[.pointer none] w fun e w' => e = .returned (.slice none 0 0) ∧ w' = w := by
  go_enter Tryz.func27, Tryz.ntmps27
  go_wp2
  go_ret
  exact ⟨rfl, rfl⟩
end Go.Proofs.YtffnkomnldgcaaaGreatDoor
namespace Go.Pal.Dk
open Go.Pal
/-- The first i files are as a crash leaves them. -/
def crashT (keep : List Int) (i : Nat) (l : List Fl) : List Fl := crashF keep 0 (l.take i) ++ l.drop i
theorem crashF_length (keep : List Int) : ∀ (l : List Fl) (i : Nat), (crashF keep i l).length = l.length
  | [], _ => rfl
  | f :: r, i => by simp [crashF, crashF_length keep r (i + 1)]
theorem crashF_names (keep : List Int) : ∀ (l : List Fl) (i : Nat), (crashF keep i l).map Fl.name = l.map Fl.name
  | [], _ => rfl
  | f :: r, i => by simp [crashF, crashF_names keep r (i + 1), cutF]
theorem crashF_snoc (keep : List Int) (x : Fl) : ∀ (l : List Fl) (i : Nat), crashF keep i (l ++ [x]) = crashF keep i l ++ [cutF (keptF keep (i + l.length) x) x]
  | [], i => by simp [crashF]
  | f :: r, i => by
    simp only [List.cons_append, crashF, crashF_snoc keep x r (i + 1), List.length_cons]
    rw [show i + 1 + r.length = i + (r.length + 1) by omega]
theorem crashT_zero (keep : List Int) (l : List Fl) : crashT keep 0 l = l := by simp [crashT, crashF]
theorem crashT_all (keep : List Int) (l : List Fl) : crashT keep l.length l = crashF keep 0 l := by simp [crashT]
theorem crashT_names (keep : List Int) (i : Nat) (l : List Fl) : (crashT keep i l).map Fl.name = l.map Fl.name := by
  rw [crashT, List.map_append, crashF_names, ← List.map_append, List.take_append_drop]
theorem crashT_split (keep : List Int) (i : Nat) (l : List Fl) (hi : i < l.length) : crashT keep i l = crashF keep 0 (l.take i) ++ l[i] :: l.drop (i + 1) := by
  rw [crashT, List.drop_eq_getElem_cons hi]
theorem crashT_succ (keep : List Int) (i : Nat) (l : List Fl) (hi : i < l.length) : crashT keep (i + 1) l = crashF keep 0 (l.take i) ++ cutF (keptF keep i l[i]) l[i] :: l.drop (i + 1) := by
  rw [crashT, List.take_succ_eq_append_getElem hi, crashF_snoc, List.append_assoc, List.length_take, Nat.zero_add, show min i l.length = i by omega]
  rfl
theorem atF_split {A B : List Fl} {f : Fl} (hs : SortedF (A ++ f :: B)) : atF (A ++ f :: B) f.name = some f := atF_mem hs (List.mem_append_right _ List.mem_cons_self)
theorem modF_split {A B : List Fl} {f : Fl} (hs : SortedF (A ++ f :: B)) (g : Fl → Fl) : modF f.name g (A ++ f :: B) = A ++ g f :: B := by
  have h1 := List.pairwise_append.1 hs
  have hA : ∀ a ∈ A, a.name ≠ f.name := fun a ha e => by have := h1.2.2 a ha f List.mem_cons_self; unfold ltB at this; rw [e] at this; exact List.lt_irrefl _ this
  have hB : ∀ b ∈ B, b.name ≠ f.name := fun b hb e => by have := (List.pairwise_cons.1 h1.2.1).1 b hb; unfold ltB at this; rw [e] at this; exact List.lt_irrefl _ this
  show (A ++ f :: B).map _ = _
  rw [List.map_append, List.map_cons, if_pos rfl]
  have e1 : (A.map fun x => if x.name = f.name then g x else x) = A := modF_same hA
  have e2 : (B.map fun x => if x.name = f.name then g x else x) = B := modF_same hB
  rw [e1, e2]
theorem crash_step (keep : List Int) (i : Nat) (l : List Fl) (hs : SortedF l) (hi : i < l.length) : atF (crashT keep i l) l[i].name = some l[i] ∧ modF l[i].name (cutF (keptF keep i l[i])) (crashT keep i l) = crashT keep (i + 1) l := by
  have hs2 := sorted_names (crashT_names keep i l).symm hs
  rw [crashT_split keep i l hi] at hs2 ⊢
  exact ⟨atF_split hs2, by rw [modF_split hs2, crashT_succ keep i l hi]⟩
end Go.Pal.Dk
namespace Go.Proofs.YtffnkomnldgcaaaGreatDoor
open Go.RowKit Go.Pal Go.Pal.Dk Go.Maps Go.Sort

/-- A row of ints that came in. -/
def IntRow (w : World) (a : Option Addr) (l : List Int) : Prop := l = [] ∨ ∃ b off, a = some ⟨b, off, none⟩ ∧ b < w.heap.size ∧ ∀ i, i < l.length → w.cell? ⟨b, off + i, none⟩ = some (.int .i64 (l.getD i 0))
/-- A row of another kind lies apart from a disk. -/
theorem DkAt.not_row {w : World} {base D : Nat} {d : Dk} {L : Lay} (h : DkAt w base D d L) {g : Nat} {cur : Array Value} (hg : w.heap[g]? = some (.cells cur 9 (0, 0))) : ¬ Foot D d.files L g := by
  rintro (rfl | hm | ⟨f, hf, rfl | hr⟩)
  · have h1 := h.blk
    unfold Blk at h1
    rw [hg] at h1
    injection h1 with h1
    injection h1 with _ h2
    exact absurd h2 (by decide)
  · obtain ⟨_, es, c, h1⟩ := h.map.lt hm
    rw [hg] at h1; cases h1
  · have h1 := (h.each f hf).blk
    unfold Blk at h1
    rw [hg] at h1
    injection h1 with h1
    injection h1 with _ h2
    exact absurd h2 (by decide)
  · obtain ⟨_, _, c, h1⟩ := own_lt (h.each f hf).row hr
    rw [hg] at h1
    injection h1 with h1
    injection h1 with _ h2
    exact absurd h2 (by decide)
/-- What a crash keeps from round to round. -/
structure Cr (w : World) (base D : Nat) (d : Dk) (L : Lay) (keep : List Int) (p : Option Addr) (cap : Nat) (i : Nat) (wr : World) : Prop where
  went : Went w base D d L { d with files := crashT keep i d.files } wr
  row : wr.ownsRow w.heap.size 9 1 (.slice p d.files.length cap) d.files.length (namesV d.files)

theorem Went.of_drew {w w' : World} {base D : Nat} {d d' : Dk} {L : Lay} (h : Went w.drew base D d L d' w') : Went w base D d L d' w' := by
  obtain ⟨L', h1, h2, h3⟩ := h
  exact ⟨L', h1, ⟨h2.os, h2.tape, h2.output, h2.size, h2.block⟩, h3⟩
theorem Cr.next {w wr w3 : World} {base D : Nat} {d : Dk} {L : Lay} {keep : List Int} {p : Option Addr} {cap i : Nat} {Li : Lay} (hrow : wr.ownsRow w.heap.size 9 1 (.slice p d.files.length cap) d.files.length (namesV d.files))
    (hD : DkAt wr base D { d with files := crashT keep i d.files } Li) (o1 : Off (Foot D d.files L) w wr) (f1 : ∀ x, Foot D (crashT keep i d.files) Li x → Foot D d.files L x ∨ w.heap.size ≤ x)
    (hW : Went wr base D { d with files := crashT keep i d.files } Li { d with files := crashT keep (i + 1) d.files } w3) : Cr w base D d L keep p cap (i + 1) w3 := by
  refine ⟨Went.then o1 f1 hW, ?_⟩
  obtain ⟨L', _, ho, _⟩ := hW
  refine own_kept hrow (fun g hg => ?_)
  obtain ⟨hlt, _, cur, hh⟩ := own_lt hrow hg
  exact ho.block g hlt (hD.not_row hh)

set_option maxHeartbeats 2000000 in
set_option maxRecDepth 100000 in
theorem crash_any {w : World} {base D : Nat} {d : Dk} {L : Lay} (h : DkAt w base D d L) (hlen : d.files.length ≤ 1000000000) (keep : List Int) (a : Option Addr) (kc : Nat) (hk : IntRow w a keep) (hkf : ∀ b off, keep ≠ [] → a = some ⟨b, off, none⟩ → ¬ Foot D d.files L b)
    (hkl : keep.length ≤ maxLen) (hkb : ∀ x ∈ keep, -9223372036854775808 ≤ x ∧ x ≤ 9223372036854775807) :
    Calls Tryz.prog 14 #[.pointer (some ⟨D, 0, none⟩), .slice a keep.length kc] w fun e w' => e = .returned (.tuple #[]) ∧ Went w base D d L (crashD d keep) w' := by
  unfold maxLen at hkl
  have HR := Lib.hid (rising_any h hlen)
  have HST := Lib.hid h.good.sorted
  have HGD := Lib.hid h.good
  have C0 := Lib.hid (fun (w1 : World) (p : Option Addr) (cap : Nat) (hb : Below w.heap.size w w1) (ho : w1.ownsRow w.heap.size 9 1 (.slice p d.files.length cap) d.files.length (namesV d.files)) =>
    show Cr w base D d L keep p cap 0 w1 from ⟨⟨L, by rw [crashT_zero]; exact h.below hb (Nat.le_refl _), Off.of_new hb _, fun x hx => .inl (by rw [crashT_zero] at hx; exact hx)⟩, ho⟩)
  have HK := Lib.hid hk
  have HKF := Lib.hid hkf
  have HKB := Lib.hid hkb
  clear h hk hkf hkb
  go_enter Tryz.func14, Tryz.ntmps14
  go_wp2_with fail
  refine HR.out.mono ?_
  rintro e w1 ⟨⟨v, rfl, hown⟩, hb⟩
  obtain ⟨p, cap, rfl, hcap, hcm⟩ := row_form hown
  unfold maxLen at hcm
  have CC := Lib.hid (C0.out w1 p cap hb hown)
  clear HR C0 hown hb
  go_wp2
  go_loopw [13] (fun i wr => ∃ k : Nat, k ≤ d.files.length ∧ i = .int .i64 k ∧ Cr w base D d L keep p cap k wr) (fun i _ => d.files.length - (intOf i).toNat)
  case atStart => exact ⟨0, Nat.zero_le _, rfl, CC.out⟩
  case round =>
    obtain ⟨k, hkl2, rfl, hC⟩ := hrel
    obtain ⟨hW, hrow⟩ := hC
    obtain ⟨Li, hD, ho, hft⟩ := hW
    by_cases hlt : k < d.files.length
    · have hnz : p ≠ none := by
        intro e; subst e
        rcases hrow.2 with ⟨_, h0⟩ | ⟨g, cap', cur, e, _⟩
        · omega
        · cases e
      obtain ⟨g, rfl⟩ : ∃ g, p = some ⟨g, 0, none⟩ := by
        rcases hrow.2 with ⟨_, h0⟩ | ⟨g, cap', cur, e, _⟩
        · omega
        · cases e; exact ⟨g, rfl⟩
      clear hnz
      obtain ⟨ck, _⟩ := own_cell hrow k hlt
      rw [namesV_get d.files k hlt] at ck
      obtain ⟨hat, hmod⟩ := crash_step keep k d.files HST.out hlt
      have hfm := (atF_some hat).1
      have hx := hD.each d.files[k] hfm
      have hnl := HGD.out.names d.files[k] (List.getElem_mem hlt)
      have hfz : d.files[k].data.size ≤ 4194304 := by
        have h1 := data_le_used (List.getElem_mem hlt)
        have h2 := HGD.out.used
        have h3 := HGD.out.room
        omega
      have hfs := HGD.out.safe d.files[k] (List.getElem_mem hlt)
      have hlook := hD.look d.files[k].name (by unfold maxLen; omega)
      rw [ptrV_some hat] at hlook
      have c2 : wr.cell? ⟨D, 2, none⟩ = some (.map Li.map) := hD.blk.cell 2
      obtain ⟨p2, cap2, hv, _, hcm2⟩ := row_form hx.row
      have hB := hx.blk
      have k0 := hB.cell 0
      have k1 := hB.cell 1
      rw [hv] at k0
      simp only [List.getElem?_cons_zero, List.getElem?_cons_succ] at k0 k1
      have hkept : keptF keep k d.files[k] ≤ d.files[k].data.size := by unfold keptF; omega
      have HLV := Lib.hid (leave_any hD (n := d.files[k].name) (f := d.files[k]) hat hkept)
      have HLD := Lib.hid (leave_any hD.drew (n := d.files[k].name) (f := d.files[k]) hat hkept)
      have HNX := Lib.hid (fun w3 hW => Cr.next (w3 := w3) (d := d) (L := L) hrow hD ho hft hW)
      rw [show ({ ({ d with files := crashT keep k d.files } : Dk) with files := modF d.files[k].name (cutF (keptF keep k d.files[k])) ({ d with files := crashT keep k d.files } : Dk).files } : Dk) = { d with files := crashT keep (k + 1) d.files } by
        show ({ d with files := modF d.files[k].name (cutF (keptF keep k d.files[k])) (crashT keep k d.files) } : Dk) = _
        rw [hmod]] at HLV HLD
      have HKE := Lib.hid (show keptF keep k d.files[k] = d.files[k].safe + min (keep.getD k 0).toNat (d.files[k].data.size - d.files[k].safe) from rfl)
      have HKC := Lib.hid (show k < keep.length → ∃ b off, a = some ⟨b, off, none⟩ ∧ wr.cell? ⟨b, off + k, none⟩ = some (.int .i64 (keep.getD k 0)) by
        intro hkk
        rcases HK.out with h0 | ⟨b, off, rfl, hbl, hc⟩
        · rw [h0] at hkk; cases hkk
        · exact ⟨b, off, rfl, (World.cell?_of_block (a := ⟨b, off + k, none⟩) (ho.block b hbl (HKF.out b off (fun h0 => by rw [h0] at hkk; cases hkk) rfl))).trans (hc k hkk)⟩)
      have HXB := Lib.hid (show k < keep.length → -9223372036854775808 ≤ keep.getD k 0 ∧ keep.getD k 0 ≤ 9223372036854775807 by
        intro hkk
        have : keep.getD k 0 = keep[k] := by simp [List.getD_eq_getElem?_getD, hkk]
        rw [this]; exact HKB.out _ (List.getElem_mem hkk))
      have HX0 := Lib.hid (show ¬ k < keep.length → keep.getD k 0 = 0 by
        intro hkk
        rw [List.getD_eq_getElem?_getD, List.getElem?_eq_none (by omega)]; rfl)
      clear hB hv hx hfm hat hmod hD hrow ho hft hkept
      generalize keptF keep k d.files[k] = kk at *
      generalize keep.getD k 0 = x at *
      generalize d.files[k].safe = sf at *
      generalize d.files[k].data.size = z at *
      generalize Li.fb d.files[k].name = F at *
      generalize d.files[k].name = nm at *
      by_cases hkk : k < keep.length
      · obtain ⟨b, off, rfl, kx⟩ := HKC.out hkk
        obtain ⟨x1, x2⟩ := HXB.out hkk
        have dk : decide ((k : Int) < (keep.length : Int)) = true := decide_eq_true (by omega)
        have hwz : IntKind.i64.wrap ((z : Int) - (sf : Int)) = (z : Int) - (sf : Int) := by rw [IntKind.wrap_i64]; omega
        have hks : (sf : Int) + min (max x 0) ((z : Int) - (sf : Int)) = (kk : Int) := by rw [HKE.out]; omega
        rw [← hks] at HLD
        clear HKC HXB HKE hks
        go_wp2
        go_region
        all_goals
          go_wp2_with fail
          refine HLD.out.mono ?_
          rintro e w3 ⟨rfl, hW3⟩
          have HN := Lib.hid (HNX.out w3 hW3.of_drew)
          clear hW3 HNX HLV HLD
          go_wp2
          go_roundw
          case rel => exact ⟨k + 1, by omega, by go_num, HN.out⟩
          case measure => simp [intOf]; omega
      · have dk : decide ((k : Int) < (keep.length : Int)) = false := decide_eq_false (by omega)
        have hx0 := HX0.out hkk
        subst hx0
        have hks : kk = sf := by rw [HKE.out]; simp
        subst hks
        clear HKE HKC HXB HX0
        go_wp2_with fail
        refine HLV.out.mono ?_
        rintro e w3 ⟨rfl, hW3⟩
        have HN := Lib.hid (HNX.out w3 hW3)
        clear hW3 HNX HLV
        go_wp2
        go_roundw
        case rel => exact ⟨k + 1, by omega, by go_num, HN.out⟩
        case measure => simp [intOf]; omega
    · have hkd : k = d.files.length := by omega
      have c3 : wr.cell? ⟨D, 3, none⟩ = some (.bool d.on) := hD.blk.cell 3
      have c4 : wr.cell? ⟨D, 4, none⟩ = some (.bool d.arm.isSome) := hD.blk.cell 4
      have c5 : wr.cell? ⟨D, 5, none⟩ = some (.int .i64 ((d.arm.getD 0 : Nat) : Int)) := hD.blk.cell 5
      have f3 := hD.blk.frozen 3
      have f4 := hD.blk.frozen 4
      have f5 := hD.blk.frozen 5
      have HD := Lib.hid hD
      have HO := Lib.hid ho
      have HFT := Lib.hid hft
      have HKD := Lib.hid hkd
      clear hD ho hft hrow hkd
      go_wp2
      go_end0
      have hg : wr.grownBy (((wr.setCell ⟨D, 3, none⟩ (.bool true)).setCell ⟨D, 4, none⟩ (.bool false)).setCell ⟨D, 5, none⟩ (.int .i64 0)) (some D) := grow_set (grow_set (grow_set (World.grownBy.refl wr _) rfl) rfl) rfl
      have hh := HD.out.head (on := true) (arm := none) (Nat.zero_le _) hg (((HD.out.blk.set 3 (.bool true)).set 4 (.bool false)).set 5 (.int .i64 0))
      have he : ({ ({ d with files := crashT keep k d.files } : Dk) with on := true, arm := none } : Dk) = crashD d keep := by
        unfold crashD
        rw [HKD.out, crashT_all]
      rw [he] at hh
      have hff : (crashD d keep).files = crashT keep k d.files := by rw [← he]
      refine ⟨rfl, Went.then HO.out HFT.out (Went.head (d := { d with files := crashT keep k d.files }) hh hff hg)⟩
set_option maxHeartbeats 400000 in
set_option maxRecDepth 100000 in
theorem crash_nil (w : World) (a : Option Addr) (n c : Nat) :
    Calls Tryz.prog 14 #[.pointer none, .slice a n c] w fun e w' => e = .returned (.tuple #[]) ∧ w' = w := by
  go_enter Tryz.func14, Tryz.ntmps14
  go_wp2
  refine bodyPost_ret (results_none rfl _ _ _) rfl ?_
  exact ⟨rfl, rfl⟩
end Go.Proofs.YtffnkomnldgcaaaGreatDoor
namespace Go.Proofs.YtffnkomnldgcaaaGreatDoor
open Go.ChangeShapes Go.WideShapes Go.ChangeAt Go.RowKit Go.Pal Go.Pal.Dk

/-- Ints that may be. -/
def IntsOk (l : List Int) : Prop := l.length ≤ maxLen ∧ ∀ x ∈ l, -9223372036854775808 ≤ x ∧ x ≤ 9223372036854775807
theorem ints_of {H : Type} {enc : TypeId × Value → H} {W : World} {fuel : Nat} {v : Value} {x : DataW H × List MemPlace} (h : DataW.trod enc Tryz.prog W 0 (fun _ => true) true fuel 23 [v] = some x) :
    ∃ (a : Option Addr) (l : List Int) (cap : Nat), v = .slice a l.length cap ∧ IntRow W a l ∧ IntsOk l := by
  have cl : Tryz.prog.cellsOf 3 = 1 := by kernel_rfl
  rcases open_ints Tryz.underlying23 Tryz.underlying3 cl h with ⟨h2, _⟩ | ⟨a, len, cap, zs, h2, _, hlc, hcm, hz, _, hcell, hws⟩
  · simp only [List.cons.injEq, and_true] at h2
    subst h2
    exact ⟨none, [], 0, rfl, .inl rfl, Nat.zero_le _, fun x hx => by cases hx⟩
  · simp only [List.cons.injEq, and_true] at h2
    subst h2
    have hz2 : zs.length = cap := hz.trans (if_pos rfl)
    have hln : (zs.take len).length = len := by simp; omega
    refine ⟨some a, zs.take len, cap, by rw [hln], ?_, by rw [hln]; omega, fun x hx => ?_⟩
    · by_cases hz0 : len = 0
      · exact .inl (by simp only [hz0, List.take_zero])
      obtain ⟨b, off, spot⟩ := a
      have hspot : spot = none := by simpa [Addr.add] using World.cell?_spot (hcell 0 (by omega))
      subst hspot
      refine .inr ⟨b, off, rfl, ?_, fun i hi => ?_⟩
      · have hc := hcell 0 (by omega)
        rcases Nat.lt_or_ge b W.heap.size with h1 | h1
        · exact h1
        · simp [World.cell?, Addr.add, Array.getElem?_eq_none h1] at hc
      · have hi' : i < len := by rw [hln] at hi; exact hi
        have hc := hcell i (by omega)
        rw [add_plain] at hc
        rw [hc]
        simp [List.getD, hi']
    · exact bounds_i64 (hws x (List.mem_of_mem_take hx))
end Go.Proofs.YtffnkomnldgcaaaGreatDoor
