/-
  Contracts of package wait: maps.Copy at sets.
-/
import Derived.Test.YtalpmnmpggljcaaWa3
namespace Go.Proofs.Ytalpmnmpggljcaa
open Go.RowKit Go.Pal
set_option linter.unusedVariables false

set_option maxHeartbeats 1000000 in
set_option maxRecDepth 100000 in
theorem mcopy_any {w : World} {db sb : Nat} {D S : List ByteArray} (hd : MapF Try.prog 9 w db D.length (setL D)) (hs : MapF Try.prog 9 w sb S.length (setL S)) (hne : db ≠ sb) (hdn : D.Nodup) (hsn : S.Nodup) (hl : D.length + S.length ≤ 1000000000) :
    Calls Try.prog 62 #[.map (some db), .map (some sb)] w fun e w' => (∃ v, e = .returned v) ∧ ∃ L : List ByteArray, L.Nodup ∧ (∀ s, s ∈ L ↔ s ∈ D ∨ s ∈ S) ∧ MapF Try.prog 9 w' db L.length (setL L) ∧ Off (fun g => g = db) w w' ∧ L.length ≤ D.length + S.length := by
  have HS := Lib.hid hs
  have HD := Lib.hid hd
  have hdl := hd.lt
  have hsl := hs.lt
  clear hd hs
  go_enter Try.func62, Try.ntmps62
  go_wp2_with (at_range; refine wpList_range_F _ rfl _ 86 rfl 9 87 Try.underlying9 Try.underlying86 sb S.length (setL S) rfl HS.out ?_; intro w0 hr0 hg0 hz0)
  go_frame
  have hD0 := HD.out.keep (hg0.block db hdl (by simp))
  go_loopw [4] (fun _ wr => ∃ left cnt L, RangeF Try.prog 9 wr sb w.heap.size S.length (setL S) left cnt ∧ L.Nodup ∧ MapF Try.prog 9 wr db L.length (setL L) ∧ (∀ s, s ∈ L ↔ s ∈ D ∨ (s ∈ S ∧ left s = false)) ∧ Off (fun g => g = db) w wr ∧ L.length + cnt ≤ D.length + S.length) (fun _ wr => wr.rangeLeft sb w.heap.size)
  case atStart => exact ⟨_, _, D, hr0, hdn, hD0, fun s => ⟨.inl, fun h => by
    rcases h with h | ⟨h, h2⟩
    · exact h
    · rw [setL_some, memB_iff.2 h] at h2; cases h2⟩, ⟨hg0.os, hg0.tape, hg0.output, by omega, fun g hg _ => hg0.block g hg (by simp)⟩, Nat.le_refl _⟩
  case round =>
    obtain ⟨left, cnt, L, hr, hln, hm, hmem, ho, hcn⟩ := hrel
    have HR := Lib.hid hr
    have HM := Lib.hid hm
    have HMEM := Lib.hid hmem
    have HO := Lib.hid ho
    have hml := hm.lt
    have hrl := hr.lt
    have hob := HS.out.obj
    clear hr hm hmem ho hr0 hg0 hD0 hz0
    go_wp2_with (at_next; refine wpList_next_F _ rfl _ rfl 9 Try.underlying9 sb w.heap.size S.length (setL S) left cnt rfl HR.out ?_ ?_)
    · intro hc0 hl0
      go_wp2
      have hend : ∀ s, s ∈ L ↔ s ∈ D ∨ s ∈ S := fun s => by
        rw [HMEM.out s]
        exact ⟨fun h => by rcases h with h | h; exact .inl h; exact .inr h.1, fun h => by rcases h with h | h; exact .inl h; exact .inr ⟨h, hl0 s⟩⟩
      first | go_end0 | (simp only [Exit.inBlock, Exit.then]; refine bodyPost_ret (results_none rfl _ _ _) rfl ?_) | refine bodyPost_ret (results_none rfl _ _ _) rfl ?_
      exact ⟨⟨_, rfl⟩, L, hln, hend, HM.out, HO.out, by omega⟩
    · intro s v w1 cnt1 hsz hls hfs hr1 hlt hg1 hs1 hen
      have hM1 := HM.out.keep (hg1.block db hml (by simp; omega))
      have hv : v = .agg #[] := by
        unfold setL at hfs
        split at hfs
        · exact (Option.some.inj hfs).symm
        · cases hfs
      subst hv
      go_wp2_with (at_mapUpdate; refine wpList_mapUpdate_F _ rfl _ _ _ 86 rfl 9 87 Try.underlying9 Try.underlying86 db L.length (setL L) rfl (hM1.keep (heap_alloc_old _ _ (by omega))) (by unfold maxLen; omega) s hsz unitV rfl rfl ?_; intro w2 hm2 ht2)
      have hg2 := ht2.grown
      have old : ∀ g, g < wr.heap.size → g ≠ db → g ≠ w.heap.size → w2.heap[g]? = wr.heap[g]? := fun g hg h1 h2 => (hg2.block g (by simp; omega) (fun e => h1 (by simpa using e))).trans ((heap_alloc_old w1 _ (by omega)).trans (hg1.block g hg (fun e => h2 (by simpa using e))))
      have hrd : w.heap.size ≠ db := by omega
      go_frame
      go_roundw
      case rel =>
        refine ⟨_, cnt1, addL L s, hr1.keep ((hg2.block sb (by simp; omega) (by simp; omega)).trans (heap_alloc_old w1 _ (by omega))) ((hg2.block _ (by simp; omega) (by simp; omega)).trans (heap_alloc_old w1 _ (by omega))), addL_nodup hln s, MapF.add hm2, fun x => ?_, ?_, ?_⟩
        · rw [mem_addL, HMEM.out x]
          have hsS : s ∈ S := by
            unfold setL at hfs
            cases hmb : memB S s with
            | true => exact memB_iff.1 hmb
            | false => rw [hmb] at hfs; cases hfs
          by_cases e : x = s
          · subst e; simp [hsS]
          · simp [e]
        · exact ⟨hg2.os.trans (hg1.os.trans HO.out.os), hg2.tape.trans (hg1.tape.trans HO.out.tape), hg2.output.trans (hg1.output.trans HO.out.output), by have := hg2.size; have := HO.out.size; simp at *; omega, fun g hg h => (old g (Nat.lt_of_lt_of_le hg HO.out.size) h (by omega)).trans (HO.out.block g hg h)⟩
        · have : (addL L s).length ≤ L.length + 1 := by unfold addL; split <;> simp
          omega
      case measure =>
        have h1 := HR.out.left_eq
        have h2 := (hr1.keep (w' := w2) ((hg2.block sb (by simp; omega) (by simp; omega)).trans (heap_alloc_old w1 _ (by omega))) ((hg2.block _ (by simp; omega) (by simp; omega)).trans (heap_alloc_old w1 _ (by omega)))).left_eq
        rw [h1, h2]; exact hlt
end Go.Proofs.Ytalpmnmpggljcaa
