/-
  Contract of sha.schedule: the 64 words of a block.
-/
import Derived.Test.YtggfmnmopfdiaaaGreatDoorSh1
import Derived.Test.YtggfmnmopfdiaaaGreatDoorBlk
import Derived.BigRegion
import Derived.BigQuiet
import Derived.Deep.QuietTactic
import Derived.Deep.RegionHeld3
import Derived.Deep.RegionWith
import Derived.WalkSmall
namespace Go.Proofs.YtggfmnmopfdiaaaGreatDoor
open Go.RowKit Go.Pal

theorem words_get (l : List UInt32) (k : Nat) (h : k < l.length) : (l.map wordV)[k]'(by simpa using h) = .int .u32 (u l[k]) := by simp [wordV]
theorem words_get? (l : List UInt32) (k : Nat) (h : k < l.length) : (l.map wordV)[k]? = some (.int .u32 (u (l.getD k 0))) := by
  simp [h, wordV]
theorem bytes_get? (l : List UInt8) (k : Nat) (h : k < l.length) : (l.map byteV)[k]? = some (.int .u8 ((l.getD k 0).toNat)) := by
  simp [h, byteV]

theorem words_getD (l : List UInt32) (k : Nat) (h : k < (l.map wordV).length) : (l.map wordV)[k] = .int .u32 (u (l.getD k 0)) := by
  have hk : k < l.length := by simpa using h
  have e : l.getD k 0 = l[k] := by simp [hk]
  rw [e, List.getElem_map]; rfl
theorem sched_cell (bs : List UInt8) (k : Nat) (h1 : 16 ≤ k) (h2 : k < 64) : ((schedW bs).map wordV)[k]'(by rw [List.length_map, schedW_length]; omega) =
    .int .u32 (u ((schedW bs).getD (k - 16) 0 + smallL ((schedW bs).getD (k - 15) 0) + (schedW bs).getD (k - 7) 0 + smallH ((schedW bs).getD (k - 2) 0))) := by
  rw [words_getD, schedW_next bs k h1 h2]
theorem sched_cell16 (bs : List UInt8) (k : Nat) (h : k < 16) : ((schedW bs).map wordV)[k]'(by rw [List.length_map, schedW_length]; omega) =
    .int .u32 (u (word4 (bs.getD (4 * k) 0) (bs.getD (4 * k + 1) 0) (bs.getD (4 * k + 2) 0) (bs.getD (4 * k + 3) 0))) := by
  have e : (schedW bs).getD k 0 = word4 (bs.getD (4 * k) 0) (bs.getD (4 * k + 1) 0) (bs.getD (4 * k + 2) 0) (bs.getD (4 * k + 3) 0) := by
    rw [schedW, getD_stretch _ 0 48 k (by rw [words16_length]; omega) (by omega), List.getD_eq_getElem?_getD, stretch, words16_get bs k h]
    rfl
  rw [words_getD, e]

set_option maxHeartbeats 1000000 in
theorem schedule_any (w : World) (B : Nat) (bs : List UInt8) (hl : bs.length = 64) (hB : Blk w B 145 (bs.map byteV)) :
    Calls Tryz.prog 120 #[.pointer (some ⟨B, 0, none⟩)] w fun e w' => e = .returned (.agg ((schedW bs).map wordV).toArray) ∧ Below w.heap.size w w' := by
  have hlt := hB.lt
  have hS := schedW_length bs
  have hT := stretch_take (words16 bs) 0 48 (by omega)
  rw [words16_length] at hT
  go_enter Tryz.func120, Tryz.ntmps120
  go_wp2
  go_loopw [10] (fun i wr => ∃ k : Nat, k ≤ 16 ∧ i = .int .i64 k ∧ Blk wr (w.heap.size + 1) 136 (fill ((schedW bs).map wordV) 64 (.int .u32 0) k) ∧ Blk wr w.heap.size 136 (List.replicate 64 (.int .u32 0)) ∧ Below w.heap.size w wr) (fun i _ => 16 - (intOf i).toNat)
  case atStart =>
    refine ⟨0, by omega, rfl, ?_, ?_, ((Below.refl _ _).alloc (Nat.le_refl _) _).alloc (by simp) _⟩
    · show Blk _ _ _ (List.replicate 64 (.int .u32 0))
      exact Blk.new' _ _ _ (by simp)
    · exact (Blk.new' _ _ (List.replicate 64 (.int .u32 0)) rfl).alloc _
  case round =>
    obtain ⟨k, hk, rfl, h1, h0, hb⟩ := hrel
    have hB' := hB.below hb hlt
    by_cases hlt16 : k < 16
    · have c0 := (hB'.cell (4 * k)).trans (bytes_get? _ _ (by omega))
      have c1 := (hB'.cell (4 * k + 1)).trans (bytes_get? _ _ (by omega))
      have c2 := (hB'.cell (4 * k + 2)).trans (bytes_get? _ _ (by omega))
      have c3 := (hB'.cell (4 * k + 3)).trans (bytes_get? _ _ (by omega))
      have f1 := h1.frozen k
      have d1 := (h1.cell k).trans (fill_get _ _ _ _ (by simp; omega) (by omega))
      have hw := sched_cell16 bs k hlt16
      have hset := h1.set k (((schedW bs).map wordV)[k]'(by simp; omega))
      rw [fill_set _ _ _ _ (by simp; omega) (by omega), hw] at hset
      have hset0 := h0.other (p := ⟨w.heap.size + 1, k, none⟩) (by simp) (.int .u32 (u (word4 (bs.getD (4 * k) 0) (bs.getD (4 * k + 1) 0) (bs.getD (4 * k + 2) 0) (bs.getD (4 * k + 3) 0))))
      have hset1 := hb.setCell (p := ⟨w.heap.size + 1, k, none⟩) (by simp) (.int .u32 (u (word4 (bs.getD (4 * k) 0) (bs.getD (4 * k + 1) 0) (bs.getD (4 * k + 2) 0) (bs.getD (4 * k + 3) 0))))
      have H0 := Lib.hid hset
      have H1 := Lib.hid hset0
      have H2 := Lib.hid hset1
      clear hset hset0 hset1 hw
      generalize bs.getD (4 * k) 0 = b0 at *
      generalize bs.getD (4 * k + 1) 0 = b1 at *
      generalize bs.getD (4 * k + 2) 0 = b2 at *
      generalize bs.getD (4 * k + 3) 0 = b3 at *
      clear hB' hT hS hl h1 h0 hb hB
      go_wp2
      go_region
      rw [word4_or b0 b1 b2 b3]
      go_wp2
      go_roundw
      case rel => exact ⟨k + 1, by omega, by go_num, H0.out.drew, H1.out.drew, H2.out.drew⟩
      case measure => simp [intOf]; omega
    · obtain rfl : k = 16 := by omega
      clear hB'
      rw [show ((16 : Nat) : Int) = 16 from rfl]
      go_wp2
      go_loopw [5] (fun i wr => ∃ k : Nat, 16 ≤ k ∧ k ≤ 64 ∧ i = .int .i64 k ∧ Blk wr (w.heap.size + 1) 136 (fill ((schedW bs).map wordV) 64 (.int .u32 0) k) ∧ Blk wr w.heap.size 136 (List.replicate 64 (.int .u32 0)) ∧ Below w.heap.size w wr) (fun i _ => 64 - (intOf i).toNat)
      case atStart => exact ⟨16, by omega, by omega, rfl, h1, h0, hb⟩
      case round =>
        clear h1 h0 hb hlt16 hk
        obtain ⟨k, hk1, hk2, rfl, h1, h0, hb⟩ := hrel
        by_cases hlt64 : k < 64
        · have c0 := (h1.cell (k - 16)).trans ((fill_old _ _ _ _ _ (by omega) (by simp; omega)).trans (words_get? _ _ (by omega)))
          have c1 := (h1.cell (k - 15)).trans ((fill_old _ _ _ _ _ (by omega) (by simp; omega)).trans (words_get? _ _ (by omega)))
          have c2 := (h1.cell (k - 7)).trans ((fill_old _ _ _ _ _ (by omega) (by simp; omega)).trans (words_get? _ _ (by omega)))
          have c3 := (h1.cell (k - 2)).trans ((fill_old _ _ _ _ _ (by omega) (by simp; omega)).trans (words_get? _ _ (by omega)))
          have hw := sched_cell bs k hk1 hlt64
          have hset := h1.set k (((schedW bs).map wordV)[k]'(by simp; omega))
          rw [fill_set _ _ _ _ (by simp; omega) (by omega), hw] at hset
          have H0 := Lib.hid hset
          clear hset hw
          have H1 := Lib.hid (fun v => h0.other (p := ⟨w.heap.size + 1, k, none⟩) (by simp) v)
          have H2 := Lib.hid (fun v => hb.setCell (p := ⟨w.heap.size + 1, k, none⟩) (by simp) v)
          unfold smallL smallH at H0
          generalize (schedW bs).getD (k - 16) 0 = x0 at *
          generalize (schedW bs).getD (k - 15) 0 = x1 at *
          generalize (schedW bs).getD (k - 7) 0 = x2 at *
          generalize (schedW bs).getD (k - 2) 0 = x3 at *
          have f1 := h1.frozen k
          have d1 := (h1.cell k).trans (fill_get _ _ _ _ (by simp; omega) (by omega))
          clear hT hS hl hB h1 h0 hb
          have ux := u_xor
          have ua := u_add
          have s3 := shr3
          have s10 := shr10
          have p1 := u_nonneg x1
          have p3 := u_nonneg x3
          go_wp2
          go_quiet (fail)
          go_wp2_with fail
          refine (rot7 x1 _).mono ?_
          rintro e w1 ⟨rfl, rfl⟩
          go_wp2_with fail
          refine (rot18 x1 _).mono ?_
          rintro e w1 ⟨rfl, rfl⟩
          go_wp2_with fail
          refine (rot17 x3 _).mono ?_
          rintro e w1 ⟨rfl, rfl⟩
          go_wp2_with fail
          refine (rot19 x3 _).mono ?_
          rintro e w1 ⟨rfl, rfl⟩
          go_wp2
          go_region
          go_wp2
          go_roundw
          case rel => exact ⟨k + 1, by omega, by omega, by go_num, H0.out, H1.out _, (below_drewN (H2.out _) nq).drew⟩
          case measure => simp [intOf]; omega
        · obtain rfl : k = 64 := by omega
          have hfull : fill ((schedW bs).map wordV) 64 (.int .u32 0) 64 = (schedW bs).map wordV := by
            have := fill_all ((schedW bs).map wordV) (.int .u32 0)
            rwa [List.length_map, hS] at this
          rw [hfull] at h1
          have hsz : ((schedW bs).map wordV).toArray.size = 64 := by simp [hS]
          generalize hV : (schedW bs).map wordV = V at *
          have HV := Lib.hid hV
          clear hT hS hl hB hfull hV
          go_wp2_with (first
            | (refine wpList_load_row rfl 136 _ rfl (w.heap.size + 1) rfl 136 V.toArray (0, 0) _ h1 Tryz.underlying136 rfl ?hi ?_)
            | (refine wpList_store_row rfl 136 _ _ rfl w.heap.size V.toArray rfl rfl 136 _ h0 ?hj ?hk ?hl ?_))
          case hi => rw [hsz]; kernel_rfl
          case hj => rw [hsz]; kernel_rfl
          case hk => rw [hsz]; simp
          case hl => rw [← HV.out]; simp [wordV, Value.oneCell']
          refine bodyPost_ret (v := .agg V.toArray) (results_cell_row (P := Tryz.prog) Tryz.results120 _ _ w.heap.size 136 V.toArray (0, 0) _ rfl (h0.row V) Tryz.underlying136 rfl (by rw [hsz]; kernel_rfl)) rfl ⟨by rw [HV.out], below_row hb (Nat.le_refl _) _⟩
end Go.Proofs.YtggfmnmopfdiaaaGreatDoor
