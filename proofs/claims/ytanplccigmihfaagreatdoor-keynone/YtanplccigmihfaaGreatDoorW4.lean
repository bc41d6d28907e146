/-
  Contracts of wots: secrets, walk (with each of the three functions that it is handed), Public, Sign, Recover.
-/
import Derived.Test.YtanplccigmihfaaGreatDoorW3
import Derived.Test.YtanplccigmihfaaGreatDoorM1
namespace Go.Pal
open Go.RowKit
/-- Where the chains of a key begin; where they are, so many steps on. -/
def secretsL (seed : ByteArray) (leaf : Nat) : List ByteArray := (List.range 67).map fun k : Nat => secretB seed leaf k
def walkL (vs : List ByteArray) (st : Nat → Nat) : List ByteArray := (List.range vs.length).map fun k : Nat => chainB k (vs.getD k ByteArray.empty) (st k)
theorem secretsL_length (seed : ByteArray) (leaf : Nat) : (secretsL seed leaf).length = 67 := by simp [secretsL]
theorem secretsL_get (seed : ByteArray) (leaf k : Nat) (h : k < 67) : (secretsL seed leaf).getD k ByteArray.empty = secretB seed leaf k := by
  rw [List.getD_eq_getElem?_getD, secretsL, List.getElem?_map, List.getElem?_range h]; rfl
theorem walkL_length (vs : List ByteArray) (st : Nat → Nat) : (walkL vs st).length = vs.length := by simp [walkL]
theorem walkL_get (vs : List ByteArray) (st : Nat → Nat) (k : Nat) (h : k < vs.length) : (walkL vs st).getD k ByteArray.empty = chainB k (vs.getD k ByteArray.empty) (st k) := by
  rw [List.getD_eq_getElem?_getD, walkL, List.getElem?_map, List.getElem?_range h]; rfl
theorem stepsN_nat (n : Nat) (h : n ≤ 1000) : stepsN (n : Int) = n := by
  unfold stepsN; rw [if_pos (by omega)]; omega
end Go.Pal
namespace Go.Proofs.YtanplccigmihfaaGreatDoor
open Go.RowKit Go.Pal

set_option maxHeartbeats 1000000 in
set_option maxRecDepth 100000 in
theorem secrets_yes (w : World) (seed : ByteArray) (leaf : Nat) (hl : leaf ≤ 65535) (hs : seed.size ≤ 1000000) (ht : Tabs w) :
    Calls Tryz.prog 73 #[.string seed, .int .i64 leaf] w fun e w' => e = .returned (.tuple #[.slice (some ⟨w.heap.size, 0, none⟩) 67 67, .bool true]) ∧ StrRow w' (some ⟨w.heap.size, 0, none⟩) (secretsL seed leaf) ∧ w.heap.size < w'.heap.size ∧ Below w.heap.size w w' := by
  have hm : (Instr.makeSlice 39 (.int .i64 67) (.int .i64 67)).run Tryz.prog w = .ok (.slice (some ⟨w.heap.size, 0, none⟩) 67 67) (w.alloc (.cells (List.replicate 67 (Value.string ⟨#[]⟩)).toArray 9)) := makeS 67 (by omega) w
  have HSE := Lib.hid (fun W k hk hT => secret_yes W seed leaf k hl hk hs hT)
  have HG := Lib.hid (fun k h => secretsL_get seed leaf k h)
  have HT := Lib.hid ht
  have hUl : ((secretsL seed leaf).map strV).length = 67 := by rw [List.length_map, secretsL_length]
  have HLU := Lib.hid (secretsL_length seed leaf)
  generalize secretsL seed leaf = U at *
  generalize hZ : List.replicate 67 (Value.string ⟨#[]⟩) = Z at *
  have hZl : Z.length = 67 := by rw [← hZ]; simp
  have hZg : ∀ k, k < 67 → Z[k]? = some (.string ⟨#[]⟩) := fun k hk => by rw [← hZ, List.getElem?_replicate, if_pos hk]
  have HZG := Lib.hid hZg
  have HUL := Lib.hid hUl
  have HZL := Lib.hid hZl
  clear ht hZ hZg hUl hZl
  go_enter Tryz.func73, Tryz.ntmps73
  go_wp2
  go_loopw [13] (fun i wr => ∃ k : Nat, k ≤ 67 ∧ i = .int .i64 k ∧ Blk wr w.heap.size 9 (partL (U.map strV) Z k) ∧ Below w.heap.size w wr) (fun i _ => 67 - (intOf i).toNat)
  case atStart => exact ⟨0, by omega, rfl, by rw [partL_zero]; exact Blk.new' _ _ _ rfl, (Below.refl _ _).alloc (Nat.le_refl _) _⟩
  case round =>
    clear hm
    obtain ⟨k, hk, rfl, hB, hb⟩ := hrel
    have hUl := HUL.out
    have hZl := HZL.out
    by_cases hlt : k < 67
    · have d0 := (hB.cell k).trans ((partL_get _ _ k (by omega)).trans (HZG.out k hlt))
      have f0 := hB.frozen k
      have hlt2 := hB.lt
      have hgk := HG.out k hlt
      have hset : ∀ w' : World, Below wr.heap.size wr w' → Blk (w'.setCell ⟨w.heap.size, k, none⟩ (.string (secretB seed leaf k))) w.heap.size 9 (partL (U.map strV) Z (k + 1)) := by
        intro w' hb'
        have h2 := (hB.below hb' hlt2).set k ((U.map strV)[k]'(by omega))
        rw [partL_set _ _ k (by omega) (by omega), (List.getElem_eq_iff _).2 (strs_get? U k (by rw [HLU.out]; exact hlt)), hgk] at h2
        exact h2
      have hbset : ∀ w' : World, Below wr.heap.size wr w' → Below w.heap.size w (w'.setCell ⟨w.heap.size, k, none⟩ (.string (secretB seed leaf k))) := fun w' hb' => (hb.trans (hb'.mono hb.size)).setCell (p := ⟨w.heap.size, k, none⟩) (Nat.le_refl _) _
      have HSEK := Lib.hid (HSE.out wr k hlt (HT.out.below hb))
      have HSET := Lib.hid hset
      have HBS := Lib.hid hbset
      generalize secretB seed leaf k = z at *
      clear hset hbset hgk hB hb hUl hZl HSE HG
      go_wp2_with fail
      refine HSEK.out.mono ?_
      rintro e w1 ⟨rfl, b1⟩
      have d1 := (b1.cell (p := ⟨w.heap.size, k, none⟩) hlt2).trans d0
      have f1 := (b1.frozen (p := ⟨w.heap.size, k, none⟩) hlt2).trans f0
      have B1 := Lib.hid b1
      clear b1
      go_wp2
      go_roundw
      case rel => exact ⟨k + 1, by omega, by go_num, HSET.out _ B1.out, HBS.out _ B1.out⟩
      case measure => simp [intOf]; omega
    · obtain rfl : k = 67 := by omega
      have hall := partL_all (U.map strV) Z (by omega)
      rw [hUl] at hall
      rw [hall] at hB
      have HSR := Lib.hid (strRow_blk hB)
      have HB := Lib.hid hb
      have HLT := Lib.hid hB.lt
      clear hB hb hall hUl hZl
      rw [show ((67 : Nat) : Int) = 67 from rfl]
      go_wp2
      go_ret2
      exact ⟨rfl, HSR.out, HLT.out, HB.out⟩

set_option maxHeartbeats 1000000 in
set_option maxRecDepth 100000 in
theorem secrets_no (w : World) (seed : ByteArray) (leaf : Int) (h : leaf < 0 ∨ 65535 < leaf) (ml : leaf ≤ 9223372036854775807) :
    Calls Tryz.prog 73 #[.string seed, .int .i64 leaf] w fun e w' => e = .returned (.tuple #[.slice none 0 0, .bool false]) ∧ Below w.heap.size w w' := by
  have hm : (Instr.makeSlice 39 (.int .i64 67) (.int .i64 67)).run Tryz.prog w = .ok (.slice (some ⟨w.heap.size, 0, none⟩) 67 67) (w.alloc (.cells (List.replicate 67 (Value.string ⟨#[]⟩)).toArray 9)) := makeS 67 (by omega) w
  have HSE := Lib.hid (fun W => secret_no W seed leaf 0 (by omega) ml (by omega))
  generalize List.replicate 67 (Value.string ⟨#[]⟩) = Z at *
  clear h ml
  go_enter Tryz.func73, Tryz.ntmps73
  go_wp2
  refine wp_loop_rounds 2 ?_; rw [rounds_succ]
  go_wp2_with fail
  refine (HSE.out _).mono ?_
  rintro e w1 ⟨rfl, b1⟩
  have c0 := (Below.refl w.heap.size w).alloc (Nat.le_refl _) (.cells Z.toArray 9)
  have C1 := Lib.hid (c0.trans (b1.mono c0.size))
  clear b1 c0
  go_wp2
  go_ret2
  exact ⟨rfl, C1.out⟩

set_option maxHeartbeats 1000000 in
set_option maxRecDepth 100000 in
theorem walk_public (w : World) (b off cap : Nat) (vs : List ByteArray) (hv : StrRow w (some ⟨b, off, none⟩) vs) (_hbl : b < w.heap.size) (hlen : vs.length = 67) (hsm : SmallL vs) (ht : Tabs w) :
    Calls Tryz.prog 74 #[.slice (some ⟨b, off, none⟩) 67 cap, .func (.func 99) #[] #[]] w fun e w' => e = .returned (.slice (some ⟨w.heap.size, 0, none⟩) 67 67) ∧ StrRow w' (some ⟨w.heap.size, 0, none⟩) (walkL vs fun _ => 15) ∧ w.heap.size < w'.heap.size ∧ Below w.heap.size w w' := by
  have hm : (Instr.makeSlice 39 (.int .i64 67) (.int .i64 67)).run Tryz.prog w = .ok (.slice (some ⟨w.heap.size, 0, none⟩) 67 67) (w.alloc (.cells (List.replicate 67 (Value.string ⟨#[]⟩)).toArray 9)) := makeS 67 (by omega) w
  have HCH := Lib.hid (fun W (k : Nat) hT => chain_any W k 15 (vs.getD k ByteArray.empty) (hsm k) hT)
  rw [show stepsN 15 = 15 from rfl] at HCH
  have hget := fun k h => walkL_get vs (fun _ => 15) k h
  rw [hlen] at hget
  have HG := Lib.hid hget
  have HV := Lib.hid hv
  have HT := Lib.hid ht
  have hUl : ((walkL vs fun _ => 15).map strV).length = 67 := by rw [List.length_map, walkL_length, hlen]
  have HLU := Lib.hid (show (walkL vs fun _ => 15).length = 67 by rw [walkL_length, hlen])
  have HCK := Lib.hid (fun (W : World) (h : StrRow W (some ⟨b, off, none⟩) vs) k (hk : k < 67) => (show W.cell? ⟨b, off + k, none⟩ = some (.string (vs.getD k ByteArray.empty)) from by
    rcases h with h | ⟨b2, o2, he, _, hc⟩
    · rw [h] at hlen; simp at hlen
    · cases he; exact hc k (by omega)))
  generalize (walkL vs fun _ => 15) = U at *
  generalize hZ : List.replicate 67 (Value.string ⟨#[]⟩) = Z at *
  have hZl : Z.length = 67 := by rw [← hZ]; simp
  have hZg : ∀ k, k < 67 → Z[k]? = some (.string ⟨#[]⟩) := fun k hk => by rw [← hZ, List.getElem?_replicate, if_pos hk]
  have HZG := Lib.hid hZg
  have HUL := Lib.hid hUl
  have HZL := Lib.hid hZl
  clear ht hZ hZg hUl hZl hget hv hlen hsm
  go_enter Tryz.func74, Tryz.ntmps74
  go_wp2
  go_loopw [13] (fun i wr => ∃ k : Nat, k ≤ 67 ∧ i = .int .i64 k ∧ Blk wr w.heap.size 9 (partL (U.map strV) Z k) ∧ Below w.heap.size w wr) (fun i _ => 67 - (intOf i).toNat)
  case atStart => exact ⟨0, by omega, rfl, by rw [partL_zero]; exact Blk.new' _ _ _ rfl, (Below.refl _ _).alloc (Nat.le_refl _) _⟩
  case round =>
    clear hm
    obtain ⟨k, hk, rfl, hB, hb⟩ := hrel
    have hUl := HUL.out
    have hZl := HZL.out
    by_cases hlt : k < 67
    · have d0 := (hB.cell k).trans ((partL_get _ _ k (by omega)).trans (HZG.out k hlt))
      have f0 := hB.frozen k
      have hlt2 := hB.lt
      have hgk := HG.out k hlt
      have ck := HCK.out wr (HV.out.below hb) k hlt
      have hset : ∀ w' : World, Below wr.heap.size wr w' → Blk (w'.setCell ⟨w.heap.size, k, none⟩ (.string (chainB k (vs.getD k ByteArray.empty) 15))) w.heap.size 9 (partL (U.map strV) Z (k + 1)) := by
        intro w' hb'
        have h2 := (hB.below hb' hlt2).set k ((U.map strV)[k]'(by omega))
        rw [partL_set _ _ k (by omega) (by omega), (List.getElem_eq_iff _).2 (strs_get? U k (by rw [HLU.out]; exact hlt)), hgk] at h2
        exact h2
      have hbset : ∀ (z : ByteArray) (w' : World), Below wr.heap.size wr w' → Below w.heap.size w (w'.setCell ⟨w.heap.size, k, none⟩ (.string z)) := fun z w' hb' => (hb.trans (hb'.mono hb.size)).setCell (p := ⟨w.heap.size, k, none⟩) (Nat.le_refl _) _
      have HCHK := Lib.hid (HCH.out wr k (HT.out.below hb))
      have HSET := Lib.hid hset
      have HBS := Lib.hid hbset
      generalize chainB k (vs.getD k ByteArray.empty) 15 = z at *
      generalize vs.getD k ByteArray.empty = y at *
      clear hset hbset hgk hB hb hUl hZl HCH HG HCK
      go_wp2_with (first | (go_at_call 102; refine HCHK.out.mono ?_; rintro e w1 ⟨rfl, b1⟩; have d1 := (b1.cell (p := ⟨w.heap.size, k, none⟩) hlt2).trans d0; have f1 := (b1.frozen (p := ⟨w.heap.size, k, none⟩) hlt2).trans f0) | go_in)
      go_roundw
      case rel => exact ⟨k + 1, by omega, by go_num, HSET.out _ b1, HBS.out _ _ b1⟩
      case measure => simp [intOf]; omega
    · obtain rfl : k = 67 := by omega
      have hall := partL_all (U.map strV) Z (by omega)
      rw [hUl] at hall
      rw [hall] at hB
      have HSR := Lib.hid (strRow_blk hB)
      have HB := Lib.hid hb
      have HLT := Lib.hid hB.lt
      clear hB hb hall hUl hZl
      rw [show ((67 : Nat) : Int) = 67 from rfl]
      go_wp2
      go_ret
      exact ⟨rfl, HSR.out, HLT.out, HB.out⟩


set_option maxHeartbeats 1000000 in
set_option maxRecDepth 100000 in
theorem walk_sign (w : World) (b off cap : Nat) (vs : List ByteArray) (db dg dc : Nat) (dl : List Nat) (hdp : w.cell? ⟨db, 0, none⟩ = some (.slice (some ⟨dg, 0, none⟩) 67 dc)) (hdc : ∀ k, k < 67 → w.cell? ⟨dg, k, none⟩ = some (.int .i64 (dl.getD k 0 : Nat))) (hdb : db < w.heap.size) (hdg : dg < w.heap.size) (hd16 : ∀ k, dl.getD k 0 < 16) (hv : StrRow w (some ⟨b, off, none⟩) vs) (_hbl : b < w.heap.size) (hlen : vs.length = 67) (hsm : SmallL vs) (ht : Tabs w) :
    Calls Tryz.prog 74 #[.slice (some ⟨b, off, none⟩) 67 cap, .func (.func 75) #[] #[.pointer (some ⟨db, 0, none⟩)]] w fun e w' => e = .returned (.slice (some ⟨w.heap.size, 0, none⟩) 67 67) ∧ StrRow w' (some ⟨w.heap.size, 0, none⟩) (walkL vs fun k => dl.getD k 0) ∧ w.heap.size < w'.heap.size ∧ Below w.heap.size w w' := by
  have hm : (Instr.makeSlice 39 (.int .i64 67) (.int .i64 67)).run Tryz.prog w = .ok (.slice (some ⟨w.heap.size, 0, none⟩) 67 67) (w.alloc (.cells (List.replicate 67 (Value.string ⟨#[]⟩)).toArray 9)) := makeS 67 (by omega) w
  have HCH := Lib.hid (fun W (k : Nat) hT => (show Calls Tryz.prog 102 #[.int .i64 (k : Int), .string (vs.getD k ByteArray.empty), .int .i64 (((dl.getD k 0 : Nat) : Int))] W fun e w' => e = .returned (.string (chainB k (vs.getD k ByteArray.empty) (dl.getD k 0))) ∧ Below W.heap.size W w' from by
    have h := chain_any W k (((dl.getD k 0 : Nat) : Int)) (vs.getD k ByteArray.empty) (hsm k) hT
    have hd := hd16 k
    rw [show stepsN (((dl.getD k 0 : Nat) : Int)) = dl.getD k 0 from by first | exact stepsN_nat _ (by omega) | (rw [show (15 : Int) - ((dl.getD k 0 : Nat) : Int) = ((15 - dl.getD k 0 : Nat) : Int) by omega]; exact stepsN_nat _ (by omega))] at h
    exact h))
  have hget := fun k h => walkL_get vs (fun k => dl.getD k 0) k h
  rw [hlen] at hget
  have HG := Lib.hid hget
  have HV := Lib.hid hv
  have HT := Lib.hid ht
  have HDC := Lib.hid hdc
  have H16 := Lib.hid hd16
  have hUl : ((walkL vs fun k => dl.getD k 0).map strV).length = 67 := by rw [List.length_map, walkL_length, hlen]
  have HLU := Lib.hid (show (walkL vs fun k => dl.getD k 0).length = 67 by rw [walkL_length, hlen])
  have HCK := Lib.hid (fun (W : World) (h : StrRow W (some ⟨b, off, none⟩) vs) k (hk : k < 67) => (show W.cell? ⟨b, off + k, none⟩ = some (.string (vs.getD k ByteArray.empty)) from by
    rcases h with h | ⟨b2, o2, he, _, hc⟩
    · rw [h] at hlen; simp at hlen
    · cases he; exact hc k (by omega)))
  generalize (walkL vs fun k => dl.getD k 0) = U at *
  generalize hZ : List.replicate 67 (Value.string ⟨#[]⟩) = Z at *
  have hZl : Z.length = 67 := by rw [← hZ]; simp
  have hZg : ∀ k, k < 67 → Z[k]? = some (.string ⟨#[]⟩) := fun k hk => by rw [← hZ, List.getElem?_replicate, if_pos hk]
  have HZG := Lib.hid hZg
  have HUL := Lib.hid hUl
  have HZL := Lib.hid hZl
  clear ht hZ hZg hUl hZl hget hv hlen hsm hdc hd16
  go_enter Tryz.func74, Tryz.ntmps74
  go_wp2
  go_loopw [13] (fun i wr => ∃ k : Nat, k ≤ 67 ∧ i = .int .i64 k ∧ Blk wr w.heap.size 9 (partL (U.map strV) Z k) ∧ Below w.heap.size w wr) (fun i _ => 67 - (intOf i).toNat)
  case atStart => exact ⟨0, by omega, rfl, by rw [partL_zero]; exact Blk.new' _ _ _ rfl, (Below.refl _ _).alloc (Nat.le_refl _) _⟩
  case round =>
    clear hm
    obtain ⟨k, hk, rfl, hB, hb⟩ := hrel
    have hUl := HUL.out
    have hZl := HZL.out
    by_cases hlt : k < 67
    · have d0 := (hB.cell k).trans ((partL_get _ _ k (by omega)).trans (HZG.out k hlt))
      have f0 := hB.frozen k
      have hlt2 := hB.lt
      have hgk := HG.out k hlt
      have ck := HCK.out wr (HV.out.below hb) k hlt
      have p0 := (hb.cell (p := ⟨db, 0, none⟩) hdb).trans hdp
      have p1 := (hb.cell (p := ⟨dg, k, none⟩) hdg).trans (HDC.out k hlt)
      have hd := H16.out k
      have hset : ∀ w' : World, Below wr.heap.size wr w' → Blk (w'.setCell ⟨w.heap.size, k, none⟩ (.string (chainB k (vs.getD k ByteArray.empty) (dl.getD k 0)))) w.heap.size 9 (partL (U.map strV) Z (k + 1)) := by
        intro w' hb'
        have h2 := (hB.below hb' hlt2).set k ((U.map strV)[k]'(by omega))
        rw [partL_set _ _ k (by omega) (by omega), (List.getElem_eq_iff _).2 (strs_get? U k (by rw [HLU.out]; exact hlt)), hgk] at h2
        exact h2
      have hbset : ∀ (z : ByteArray) (w' : World), Below wr.heap.size wr w' → Below w.heap.size w (w'.setCell ⟨w.heap.size, k, none⟩ (.string z)) := fun z w' hb' => (hb.trans (hb'.mono hb.size)).setCell (p := ⟨w.heap.size, k, none⟩) (Nat.le_refl _) _
      have HCHK := Lib.hid (HCH.out wr k (HT.out.below hb))
      have HSET := Lib.hid hset
      have HBS := Lib.hid hbset
      generalize chainB k (vs.getD k ByteArray.empty) (dl.getD k 0) = z at *
      generalize vs.getD k ByteArray.empty = y at *
      generalize dl.getD k 0 = dk at *
      clear hset hbset hgk hB hb hUl hZl HCH HG HCK
      go_wp2_with (first | (go_at_call 102; refine HCHK.out.mono ?_; rintro e w1 ⟨rfl, b1⟩; have d1 := (b1.cell (p := ⟨w.heap.size, k, none⟩) hlt2).trans d0; have f1 := (b1.frozen (p := ⟨w.heap.size, k, none⟩) hlt2).trans f0) | go_in)
      go_roundw
      case rel => exact ⟨k + 1, by omega, by go_num, HSET.out _ b1, HBS.out _ _ b1⟩
      case measure => simp [intOf]; omega
    · obtain rfl : k = 67 := by omega
      have hall := partL_all (U.map strV) Z (by omega)
      rw [hUl] at hall
      rw [hall] at hB
      have HSR := Lib.hid (strRow_blk hB)
      have HB := Lib.hid hb
      have HLT := Lib.hid hB.lt
      clear hB hb hall hUl hZl
      rw [show ((67 : Nat) : Int) = 67 from rfl]
      go_wp2
      go_ret
      exact ⟨rfl, HSR.out, HLT.out, HB.out⟩

set_option maxHeartbeats 1000000 in
set_option maxRecDepth 100000 in
theorem walk_recover (w : World) (b off cap : Nat) (vs : List ByteArray) (db dg dc : Nat) (dl : List Nat) (hdp : w.cell? ⟨db, 0, none⟩ = some (.slice (some ⟨dg, 0, none⟩) 67 dc)) (hdc : ∀ k, k < 67 → w.cell? ⟨dg, k, none⟩ = some (.int .i64 (dl.getD k 0 : Nat))) (hdb : db < w.heap.size) (hdg : dg < w.heap.size) (hd16 : ∀ k, dl.getD k 0 < 16) (hv : StrRow w (some ⟨b, off, none⟩) vs) (_hbl : b < w.heap.size) (hlen : vs.length = 67) (hsm : SmallL vs) (ht : Tabs w) :
    Calls Tryz.prog 74 #[.slice (some ⟨b, off, none⟩) 67 cap, .func (.func 88) #[] #[.pointer (some ⟨db, 0, none⟩)]] w fun e w' => e = .returned (.slice (some ⟨w.heap.size, 0, none⟩) 67 67) ∧ StrRow w' (some ⟨w.heap.size, 0, none⟩) (walkL vs fun k => 15 - dl.getD k 0) ∧ w.heap.size < w'.heap.size ∧ Below w.heap.size w w' := by
  have hm : (Instr.makeSlice 39 (.int .i64 67) (.int .i64 67)).run Tryz.prog w = .ok (.slice (some ⟨w.heap.size, 0, none⟩) 67 67) (w.alloc (.cells (List.replicate 67 (Value.string ⟨#[]⟩)).toArray 9)) := makeS 67 (by omega) w
  have HCH := Lib.hid (fun W (k : Nat) hT => (show Calls Tryz.prog 102 #[.int .i64 (k : Int), .string (vs.getD k ByteArray.empty), .int .i64 ((15 : Int) - ((dl.getD k 0 : Nat) : Int))] W fun e w' => e = .returned (.string (chainB k (vs.getD k ByteArray.empty) (15 - dl.getD k 0))) ∧ Below W.heap.size W w' from by
    have h := chain_any W k ((15 : Int) - ((dl.getD k 0 : Nat) : Int)) (vs.getD k ByteArray.empty) (hsm k) hT
    have hd := hd16 k
    rw [show stepsN ((15 : Int) - ((dl.getD k 0 : Nat) : Int)) = 15 - dl.getD k 0 from by first | exact stepsN_nat _ (by omega) | (rw [show (15 : Int) - ((dl.getD k 0 : Nat) : Int) = ((15 - dl.getD k 0 : Nat) : Int) by omega]; exact stepsN_nat _ (by omega))] at h
    exact h))
  have hget := fun k h => walkL_get vs (fun k => 15 - dl.getD k 0) k h
  rw [hlen] at hget
  have HG := Lib.hid hget
  have HV := Lib.hid hv
  have HT := Lib.hid ht
  have HDC := Lib.hid hdc
  have H16 := Lib.hid hd16
  have hUl : ((walkL vs fun k => 15 - dl.getD k 0).map strV).length = 67 := by rw [List.length_map, walkL_length, hlen]
  have HLU := Lib.hid (show (walkL vs fun k => 15 - dl.getD k 0).length = 67 by rw [walkL_length, hlen])
  have HCK := Lib.hid (fun (W : World) (h : StrRow W (some ⟨b, off, none⟩) vs) k (hk : k < 67) => (show W.cell? ⟨b, off + k, none⟩ = some (.string (vs.getD k ByteArray.empty)) from by
    rcases h with h | ⟨b2, o2, he, _, hc⟩
    · rw [h] at hlen; simp at hlen
    · cases he; exact hc k (by omega)))
  generalize (walkL vs fun k => 15 - dl.getD k 0) = U at *
  generalize hZ : List.replicate 67 (Value.string ⟨#[]⟩) = Z at *
  have hZl : Z.length = 67 := by rw [← hZ]; simp
  have hZg : ∀ k, k < 67 → Z[k]? = some (.string ⟨#[]⟩) := fun k hk => by rw [← hZ, List.getElem?_replicate, if_pos hk]
  have HZG := Lib.hid hZg
  have HUL := Lib.hid hUl
  have HZL := Lib.hid hZl
  clear ht hZ hZg hUl hZl hget hv hlen hsm hdc hd16
  go_enter Tryz.func74, Tryz.ntmps74
  go_wp2
  go_loopw [13] (fun i wr => ∃ k : Nat, k ≤ 67 ∧ i = .int .i64 k ∧ Blk wr w.heap.size 9 (partL (U.map strV) Z k) ∧ Below w.heap.size w wr) (fun i _ => 67 - (intOf i).toNat)
  case atStart => exact ⟨0, by omega, rfl, by rw [partL_zero]; exact Blk.new' _ _ _ rfl, (Below.refl _ _).alloc (Nat.le_refl _) _⟩
  case round =>
    clear hm
    obtain ⟨k, hk, rfl, hB, hb⟩ := hrel
    have hUl := HUL.out
    have hZl := HZL.out
    by_cases hlt : k < 67
    · have d0 := (hB.cell k).trans ((partL_get _ _ k (by omega)).trans (HZG.out k hlt))
      have f0 := hB.frozen k
      have hlt2 := hB.lt
      have hgk := HG.out k hlt
      have ck := HCK.out wr (HV.out.below hb) k hlt
      have p0 := (hb.cell (p := ⟨db, 0, none⟩) hdb).trans hdp
      have p1 := (hb.cell (p := ⟨dg, k, none⟩) hdg).trans (HDC.out k hlt)
      have hd := H16.out k
      have hset : ∀ w' : World, Below wr.heap.size wr w' → Blk (w'.setCell ⟨w.heap.size, k, none⟩ (.string (chainB k (vs.getD k ByteArray.empty) (15 - dl.getD k 0)))) w.heap.size 9 (partL (U.map strV) Z (k + 1)) := by
        intro w' hb'
        have h2 := (hB.below hb' hlt2).set k ((U.map strV)[k]'(by omega))
        rw [partL_set _ _ k (by omega) (by omega), (List.getElem_eq_iff _).2 (strs_get? U k (by rw [HLU.out]; exact hlt)), hgk] at h2
        exact h2
      have hbset : ∀ (z : ByteArray) (w' : World), Below wr.heap.size wr w' → Below w.heap.size w (w'.setCell ⟨w.heap.size, k, none⟩ (.string z)) := fun z w' hb' => (hb.trans (hb'.mono hb.size)).setCell (p := ⟨w.heap.size, k, none⟩) (Nat.le_refl _) _
      have HCHK := Lib.hid (HCH.out wr k (HT.out.below hb))
      have HSET := Lib.hid hset
      have HBS := Lib.hid hbset
      generalize chainB k (vs.getD k ByteArray.empty) (15 - dl.getD k 0) = z at *
      generalize vs.getD k ByteArray.empty = y at *
      generalize dl.getD k 0 = dk at *
      clear hset hbset hgk hB hb hUl hZl HCH HG HCK
      go_wp2_with (first | (go_at_call 102; refine HCHK.out.mono ?_; rintro e w1 ⟨rfl, b1⟩; have d1 := (b1.cell (p := ⟨w.heap.size, k, none⟩) hlt2).trans d0; have f1 := (b1.frozen (p := ⟨w.heap.size, k, none⟩) hlt2).trans f0) | go_in)
      go_roundw
      case rel => exact ⟨k + 1, by omega, by go_num, HSET.out _ b1, HBS.out _ _ b1⟩
      case measure => simp [intOf]; omega
    · obtain rfl : k = 67 := by omega
      have hall := partL_all (U.map strV) Z (by omega)
      rw [hUl] at hall
      rw [hall] at hB
      have HSR := Lib.hid (strRow_blk hB)
      have HB := Lib.hid hb
      have HLT := Lib.hid hB.lt
      clear hB hb hall hUl hZl
      rw [show ((67 : Nat) : Int) = 67 from rfl]
      go_wp2
      go_ret
      exact ⟨rfl, HSR.out, HLT.out, HB.out⟩


end Go.Proofs.YtanplccigmihfaaGreatDoor
