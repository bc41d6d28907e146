/-
  Contracts of wots.Digits and of the document's Digits.
-/
import Derived.Test.YtanplccigmihfaaGreatDoorW0
import Derived.Test.YtanplccigmihfaaGreatDoorSh4
import Derived.Deep.RegionHeld3
import Derived.Deep.AppendLies
namespace Go.Proofs.YtanplccigmihfaaGreatDoor
open Go.RowKit Go.Pal

theorem intV_all (l : List Nat) : ∀ u ∈ l.map intV, u.oneCell' = true := by
  intro u hu
  obtain ⟨n, _, rfl⟩ := List.mem_map.1 hu
  rfl

set_option maxHeartbeats 400000 in
theorem digits_no (s : ByteArray) (h : s.size ≠ 32) (w : World) :
    Calls Tryz.prog 72 #[.string s] w fun e w' => e = .returned (.tuple #[.slice none 0 0, .bool false]) ∧ w = w' := by
  have hd : ((s.size : Int) == 32) = false := by simp; omega
  go_enter Tryz.func72, Tryz.ntmps72
  go_wp2
  go_ret2
  exact ⟨rfl, rfl⟩

set_option maxHeartbeats 1000000 in
set_option maxRecDepth 100000 in
theorem digits_yes (s : ByteArray) (h : s.size = 32) (w : World) :
    Calls Tryz.prog 72 #[.string s] w fun e w' => (∃ v, e = .returned (.tuple #[v, .bool true]) ∧ w'.ownsRow w.heap.size 3 1 v 67 ((digL s.data.toList).map intV)) ∧ Below w.heap.size w w' := by
  obtain ⟨i0, hi, hz0, hz1, hz2⟩ := info_parts (show (Tryz.prog.info? 3).map (fun i => (i.zero, i.size, i.bytes)) = some (some (.int .i64 0), 1, 8) by kernel_rfl)
  have hd : ((s.size : Int) == 32) = true := by simp; omega
  have HS := Lib.hid h
  have HM1 : Hid (i0.bytes * 67 ≤ 281474976710656) := Lib.hid (by rw [hz2]; omega)
  have HM2 : Hid (67 ≤ maxLen) := Lib.hid (by unfold maxLen; omega)
  have hsz : s.size ≤ 32 := by omega
  have HI := Lib.hid hi
  have HZ0 := Lib.hid hz0
  have HZ1 := Lib.hid hz1
  have HZ2 := Lib.hid hz2
  clear h hi hz0 hz1 hz2
  go_enter Tryz.func72, Tryz.ntmps72
  go_wp2_with (at_make; refine wpList_make_own _ rfl _ _ 109 rfl w.heap.size 3 i0 (.int .i64 0) 1 Tryz.underlying109 HI.out HZ0.out HZ1.out .i64 .i64 _ 67 rfl rfl rfl HM1.out HM2.out (Nat.le_refl _) ?_)
  intro w1 hown1 hg1
  have HO1 := Lib.hid hown1
  have HB1 := Lib.hid ((Below.refl w.heap.size w).grown hg1 (Nat.le_refl _) (by intro k hk; cases hk))
  clear hown1 hg1
  go_wp2
  go_loopw [4, 5, 15] (fun v n i wr => ∃ k l : Nat, k ≤ s.size ∧ i = .int .i64 k ∧ n = .int .i64 l ∧ l = lackL (s.data.toList.take k) ∧ l ≤ 30 * k ∧ wr.ownsRow w.heap.size 3 1 v (2 * k) ((nibs (s.data.toList.take k)).map intV) ∧ Below w.heap.size w wr) (fun _ _ i _ => s.size - (intOf i).toNat)
  case atStart => exact ⟨0, 0, by omega, rfl, rfl, rfl, by omega, HO1.out, HB1.out⟩
  case round =>
    clear HO1 HB1
    obtain ⟨k, l, hk, rfl, rfl, hl, hl2, hown, hb⟩ := hrel
    by_cases hlt : k < s.size
    · have hn := nibs_snoc (s.data.toList.take k) s[k]
      have hq := lackL_snoc (s.data.toList.take k) s[k]
      rw [← data_take s k hlt] at hn hq
      rw [← hl] at hq
      have hbl := s[k].toNat_lt
      have ha := and15 s[k]
      have HN := Lib.hid hn
      have HQ := Lib.hid hq
      have HO := Lib.hid hown
      have HB := Lib.hid hb
      clear hn hq hown hb hl hd
      have HC1 : Hid (2 * k + 2 ≤ maxLen) := Lib.hid (by unfold maxLen; omega)
      have HC2 : Hid ((2 * k + 2) * 8 ≤ 140737488355328) := Lib.hid (by omega)
      have HC3 : Hid (∀ o : Obj, w.heap.size ≤ (wr.alloc o).heap.size) := Lib.hid (fun o => by have := HB.out.size; simp; omega)
      go_wp2
      go_region
      go_wp2_with (at_builtin; refine wpList_append_lies _ rfl _ _ 109 rfl w.heap.size 3 i0 (.int .i64 0) 1 8 Tryz.underlying109 HI.out HZ0.out HZ1.out HZ2.out rfl (by omega) _ (2 * k) _ rfl ((HO.out.alloc _).drew) ⟨wr.heap.size, 0, none⟩ 2 2 [intV (s[k].toNat / 16), intV (s[k].toNat % 16)] rfl rfl (World.news_of_block (cs := #[intV (s[k].toNat / 16), intV (s[k].toNat % 16)]) (t := 3) (fr := (0, 0)) (heap_alloc_new wr _)) (intV_all [_, _]) (by omega) HC1.out HC2.out (HC3.out _) (wr.heap.size + 1) (by simp) ?_)
      intro g cap w2 hown2 hg2 _ _
      have HO2 := Lib.hid hown2
      have HB2 := Lib.hid (((HB.out.alloc HB.out.size _).drew).grown hg2 (HC3.out _) (fun j hj => (HO.out.lt j hj).1))
      clear hown2 hg2 HO HB HC1 HC2 HC3 ha
      generalize s[k].toNat = b at *
      go_wp2
      go_roundw
      case rel =>
        refine ⟨k + 1, l + ((15 - b / 16) + (15 - b % 16)), by omega, by go_num, ?_, HQ.out.symm, by omega, ?_, HB2.out⟩
        · go_num
        · have h5 := HO2.out
          rw [HN.out, List.map_append]
          exact h5
      case measure => simp [intOf]; omega
    · obtain rfl : k = s.size := by omega
      have h32 := HS.out
      have hlen : s.data.toList.length = s.size := by simp
      have htk : s.data.toList.take s.size = s.data.toList := List.take_of_length_le (by omega)
      rw [htk] at hl hown
      have hdl : (digL s.data.toList).map intV = (nibs s.data.toList).map intV ++ [intV (l / 256), intV (l / 16 % 16), intV (l % 16)] := by rw [hl, digL, List.map_append]; rfl
      have HD := Lib.hid hdl
      have HO := Lib.hid hown
      have HB := Lib.hid hb
      have a1 : bits BinOp.and IntKind.i64 ((l : Int) / 16) 15 = (l : Int) / 16 % 16 := and15i (l / 16)
      have a2 : bits BinOp.and IntKind.i64 (l : Int) 15 = (l : Int) % 16 := and15i l
      have HA := Lib.hid h32
      have hl3 : l ≤ 960 := by omega
      clear hl hown hb hdl htk hlen hl2 hk hlt h32 hd
      have HC1 : Hid (2 * s.size + 3 ≤ maxLen) := Lib.hid (by unfold maxLen; omega)
      have HC2 : Hid ((2 * s.size + 3) * 8 ≤ 140737488355328) := Lib.hid (by omega)
      have HC3 : Hid (∀ o : Obj, w.heap.size ≤ (wr.alloc o).heap.size) := Lib.hid (fun o => by have := HB.out.size; simp; omega)
      go_wp2_with (at_builtin; refine wpList_append_lies _ rfl _ _ 109 rfl w.heap.size 3 i0 (.int .i64 0) 1 8 Tryz.underlying109 HI.out HZ0.out HZ1.out HZ2.out rfl (by omega) _ (2 * s.size) _ rfl (HO.out.alloc _) ⟨wr.heap.size, 0, none⟩ 3 3 [intV (l / 256), intV (l / 16 % 16), intV (l % 16)] rfl rfl (World.news_of_block (cs := #[intV (l / 256), intV (l / 16 % 16), intV (l % 16)]) (t := 3) (fr := (0, 0)) (heap_alloc_new wr _)) (intV_all [_, _, _]) (by omega) HC1.out HC2.out (HC3.out _) (wr.heap.size + 1) (by simp) ?_)
      intro g cap w2 hown2 hg2 _ _
      have HB2 := Lib.hid ((HB.out.alloc HB.out.size _).grown hg2 (HC3.out _) (fun j hj => (HO.out.lt j hj).1))
      rw [← HD.out, HA.out] at hown2
      have HO2 := Lib.hid hown2
      clear hown2 hg2
      go_wp2
      go_ret2
      exact ⟨⟨_, rfl, by rw [HA.out]; exact HO2.out⟩, HB2.out⟩

set_option maxHeartbeats 1000000 in
set_option maxRecDepth 100000 in
theorem refdigits (s : ByteArray) (h : s.size = 32) (w : World) :
    Calls Tryz.prog 83 #[.string s] w fun e w' => (∃ v, e = .returned v ∧ w'.ownsRow w.heap.size 3 1 v 67 ((digL s.data.toList).map intV)) ∧ Below w.heap.size w w' := by
  obtain ⟨i0, hi, hz0, hz1, hz2⟩ := info_parts (show (Tryz.prog.info? 3).map (fun i => (i.zero, i.size, i.bytes)) = some (some (.int .i64 0), 1, 8) by kernel_rfl)
  have HS := Lib.hid h
  have hsz : s.size ≤ 32 := by omega
  clear h
  go_enter Tryz.func83, Tryz.ntmps83
  go_wp2
  go_loopw [3, 5] (fun v i wr => ∃ k : Nat, k ≤ s.size ∧ i = .int .i64 k ∧ wr.ownsRow w.heap.size 3 1 v (2 * k) ((nibs (s.data.toList.take k)).map intV) ∧ Below w.heap.size w wr) (fun _ i _ => s.size - (intOf i).toNat)
  case atStart => exact ⟨0, by omega, rfl, World.ownsRow_nil _ _ _ _, Below.refl _ _⟩
  case round =>
    obtain ⟨k, hk, rfl, hown, hb⟩ := hrel
    by_cases hlt : k < s.size
    · have hn := nibs_snoc (s.data.toList.take k) s[k]
      rw [← data_take s k hlt] at hn
      have hbl := s[k].toNat_lt
      have HN := Lib.hid hn
      have HO := Lib.hid hown
      have HB := Lib.hid hb
      have hk0 : (0 : Int) ≤ (k : Int) := by omega
      have hk1 : (k : Int) < (s.size : Int) := by omega
      have r1 : IntKind.i64.wrap (s[k].toNat : Int) = (s[k].toNat : Int) := by rw [IntKind.wrap_i64]; omega
      have r2 : IntKind.i64.wrap ((s[k].toNat : Int).tdiv 16) = (s[k].toNat : Int) / 16 := by rw [Int.tdiv_eq_ediv_of_nonneg (by omega), IntKind.wrap_i64]; omega
      have r4 : IntKind.i64.wrap ((s[k].toNat : Int) / 16) = (s[k].toNat : Int) / 16 := by rw [IntKind.wrap_i64]; omega
      have r3 : (s[k].toNat : Int).tmod 16 = (s[k].toNat : Int) % 16 := by rw [Int.tmod_eq_emod_of_nonneg (by omega)]
      clear hn hown hb
      have HC1 : Hid (2 * k + 2 ≤ maxLen) := Lib.hid (by unfold maxLen; omega)
      have HC2 : Hid ((2 * k + 2) * 8 ≤ 140737488355328) := Lib.hid (by omega)
      have HC3 : Hid (∀ o : Obj, w.heap.size ≤ (wr.alloc o).heap.size) := Lib.hid (fun o => by have := HB.out.size; simp; omega)
      go_wp2
      go_region_held3 (fun _ => True) (trivial) ((refine step_append_lies _ (by rfl) _ _ _ (by rfl) w.heap.size 3 i0 (.int .i64 0) 1 8 Tryz.underlying109 hi hz0 hz1 hz2 rfl (by omega) _ (2 * k) _ (by rfl) ((HO.out.alloc _).drew) ⟨wr.heap.size, 0, none⟩ 2 2 [intV (s[k].toNat / 16), intV (s[k].toNat % 16)] (by rfl) (by rfl) (World.news_of_block (cs := #[intV (s[k].toNat / 16), intV (s[k].toNat % 16)]) (t := 3) (fr := (0, 0)) (heap_alloc_new wr _)) (intV_all [_, _]) (by omega) HC1.out HC2.out (HC3.out _) (wr.heap.size + 1) (by simp) ?_; intro g cap w2 hown2 hg2 _ _))
      all_goals
        have HO2 := Lib.hid hown2
        have HB2 := Lib.hid (((HB.out.alloc HB.out.size _).drew).grown hg2 (HC3.out _) (fun j hj => (HO.out.lt j hj).1))
        clear hown2 hg2 HO HB HC1 HC2 HC3 r1 r2 r3 r4
        go_wp2
        go_roundw
        case rel =>
          refine ⟨k + 1, by omega, by go_num, ?_, HB2.out⟩
          have h5 := HO2.out
          rw [HN.out, List.map_append]
          exact h5
        case measure => simp [intOf]; omega
    · obtain rfl : k = s.size := by omega
      have h32 := HS.out
      have hlen : s.data.toList.length = s.size := by simp
      have htk : s.data.toList.take s.size = s.data.toList := List.take_of_length_le (by omega)
      rw [htk] at hown
      have hnl := nibs_length s.data.toList
      have hlt16 := nibs_lt s.data.toList
      have hlk := lackN_nibs s.data.toList
      rw [hlen, h32] at hnl
      rw [h32] at hown
      generalize hNB : nibs s.data.toList = NB at *
      have hdl : (digL s.data.toList).map intV = NB.map intV ++ [intV (lackN NB / 256), intV (lackN NB / 16 % 16), intV (lackN NB % 16)] := by rw [hlk, digL, List.map_append, hNB]; rfl
      obtain ⟨g, cap, hform, _, _⟩ := hown.form (by omega)
      rw [hform] at hown ⊢
      rw [show 2 * 32 = 64 from rfl] at hown ⊢
      have HD := Lib.hid hdl
      have HO := Lib.hid hown
      have HB := Lib.hid hb
      have HL := Lib.hid hlt16
      have HNL := Lib.hid hnl
      clear hown hb hdl htk hlen hk hlt h32 hform hlk hlt16 hNB hsz
      go_wp2
      go_loop [4, 6] (fun n i => ∃ j l : Nat, j ≤ 64 ∧ i = .int .i64 j ∧ n = .int .i64 l ∧ l = lackN (NB.take j) ∧ l ≤ 15 * j) (fun _ i => 64 - (intOf i).toNat)
      case atStart => exact ⟨0, 0, by omega, rfl, rfl, rfl, by omega⟩
      case round =>
        obtain ⟨j, l, hj, rfl, rfl, hl, hl2⟩ := hrel
        by_cases hlt : j < 64
        · have hnl := HNL.out
          have hst := lackN_take NB j (by omega)
          rw [← hl] at hst
          have c0 := (HO.out.cellAt j (by omega)).trans (ints_get? NB j (by omega))
          have hx := getD_lt NB 16 (by omega) HL.out j
          generalize NB.getD j 0 = x at *
          have HST := Lib.hid hst
          clear hst hl hnl
          go_wp2
          go_round
          case rel => exact ⟨j + 1, l + (15 - x), by omega, by go_num, by go_num, HST.out.symm, by omega⟩
          case measure => simp [intOf]; omega
        · obtain rfl : j = 64 := by omega
          have hnl := HNL.out
          rw [List.take_of_length_le (by omega)] at hl
          rw [← hl] at HD
          have HC1 : Hid (64 + 3 ≤ maxLen) := Lib.hid (by unfold maxLen; omega)
          have HC3 : Hid (∀ o : Obj, w.heap.size ≤ (wr.alloc o).heap.size) := Lib.hid (fun o => by have := HB.out.size; simp; omega)
          have hl3 : l ≤ 960 := by omega
          clear hl hnl hlt hj hl2
          rw [show ((64 : Nat) : Int) = 64 from rfl]
          go_wp2_with (at_builtin; refine wpList_append_lies _ rfl _ _ 109 rfl w.heap.size 3 i0 (.int .i64 0) 1 8 Tryz.underlying109 hi hz0 hz1 hz2 rfl (by omega) _ 64 _ rfl (HO.out.alloc _) ⟨wr.heap.size, 0, none⟩ 3 3 [intV (l / 256), intV (l / 16 % 16), intV (l % 16)] rfl rfl (World.news_of_block (cs := #[intV (l / 256), intV (l / 16 % 16), intV (l % 16)]) (t := 3) (fr := (0, 0)) (heap_alloc_new wr _)) (intV_all [_, _, _]) (by omega) HC1.out (by omega) (HC3.out _) (wr.heap.size + 1) (by simp) ?_)
          intro g2 cap2 w2 hown2 hg2 _ _
          have HB2 := Lib.hid ((HB.out.alloc HB.out.size _).grown hg2 (HC3.out _) (fun j hj => (HO.out.lt j hj).1))
          rw [← HD.out] at hown2
          have HO2 := Lib.hid hown2
          clear hown2 hg2
          go_wp2
          go_ret
          exact ⟨⟨_, rfl, HO2.out⟩, HB2.out⟩

end Go.Proofs.YtanplccigmihfaaGreatDoor
