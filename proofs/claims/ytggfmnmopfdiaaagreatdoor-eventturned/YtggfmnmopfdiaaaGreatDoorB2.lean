/-
  Contracts of wots: secrets, walk (with each of the three functions that it is handed), Public, Sign, Recover.
  Contracts of wots.Public, wots.Sign and wots.Recover.
  Contracts of merkle: areLeaves, Root, Path; of the document's May; of the law's own awake and long.
  Contracts of merkle: Path, Fold; of the law's own awake and long.
-/
import Derived.Test.YtggfmnmopfdiaaaGreatDoorB1
import Derived.Deep.AppendLies
namespace Go.Pal
open Go.RowKit
/-- Where the chains of a key begin; where they are, so many steps on. -/
def secretsL (seed : ByteArray) (leaf : Nat) : List ByteArray := (List.range 67).map fun k : Nat => secretB seed leaf k
def walkL (vs : List ByteArray) (st : Nat → Nat) : List ByteArray := (List.range vs.length).map fun k : Nat => chainB k (vs.getD k ByteArray.empty) (st k)
theorem secretsL_length (seed : ByteArray) (leaf : Nat) : (secretsL seed leaf).length = 67 := by simp [secretsL]
theorem secretsL_get (seed : ByteArray) (leaf k : Nat) (h : k < 67) : (secretsL seed leaf).getD k ByteArray.empty = secretB seed leaf k := by
  rw [List.getD_eq_getElem?_getD, secretsL, List.getElem?_map, List.getElem?_range h]; rfl
theorem walkL_length (vs : List ByteArray) (st : Nat → Nat) : (walkL vs st).length = vs.length := by simp [walkL]
theorem walkL_get (vs : List ByteArray) (st : Nat → Nat) (k : Nat) (h : k < vs.length) : (walkL vs st).getD k ByteArray.empty = chainB k (vs.getD k ByteArray.empty) (st k) := by
  rw [List.getD_eq_getElem?_getD, walkL, List.getElem?_map, List.getElem?_range h]; rfl
theorem stepsN_nat (n : Nat) (h : n ≤ 1000) : stepsN (n : Int) = n := by
  unfold stepsN; rw [if_pos (by omega)]; omega
end Go.Pal
namespace Go.Proofs.YtggfmnmopfdiaaaGreatDoor
open Go.RowKit Go.Pal

set_option maxHeartbeats 1000000 in
set_option maxRecDepth 100000 in
theorem secrets_yes (w : World) (seed : ByteArray) (leaf : Nat) (hl : leaf ≤ 65535) (hs : seed.size ≤ 1000000) (ht : Tabs w) :
    Calls Tryz.prog 88 #[.string seed, .int .i64 leaf] w fun e w' => e = .returned (.tuple #[.slice (some ⟨w.heap.size, 0, none⟩) 67 67, .bool true]) ∧ StrRow w' (some ⟨w.heap.size, 0, none⟩) (secretsL seed leaf) ∧ w.heap.size < w'.heap.size ∧ Below w.heap.size w w' := by
  have hm : (Instr.makeSlice 22 (.int .i64 67) (.int .i64 67)).run Tryz.prog w = .ok (.slice (some ⟨w.heap.size, 0, none⟩) 67 67) (w.alloc (.cells (List.replicate 67 (Value.string ⟨#[]⟩)).toArray 9)) := makeS 67 (by omega) w
  have HSE := Lib.hid (fun W k hk hT => secret_yes W seed leaf k hl hk hs hT)
  have HG := Lib.hid (fun k h => secretsL_get seed leaf k h)
  have HT := Lib.hid ht
  have hUl : ((secretsL seed leaf).map strV).length = 67 := by rw [List.length_map, secretsL_length]
  have HLU := Lib.hid (secretsL_length seed leaf)
  generalize secretsL seed leaf = U at *
  generalize hZ : List.replicate 67 (Value.string ⟨#[]⟩) = Z at *
  have hZl : Z.length = 67 := by rw [← hZ]; simp
  have hZg : ∀ k, k < 67 → Z[k]? = some (.string ⟨#[]⟩) := fun k hk => by rw [← hZ, List.getElem?_replicate, if_pos hk]
  have HZG := Lib.hid hZg
  have HUL := Lib.hid hUl
  have HZL := Lib.hid hZl
  clear ht hZ hZg hUl hZl
  go_enter Tryz.func88, Tryz.ntmps88
  go_wp2
  go_loopw [13] (fun i wr => ∃ k : Nat, k ≤ 67 ∧ i = .int .i64 k ∧ Blk wr w.heap.size 9 (partL (U.map strV) Z k) ∧ Below w.heap.size w wr) (fun i _ => 67 - (intOf i).toNat)
  case atStart => exact ⟨0, by omega, rfl, by rw [partL_zero]; exact Blk.new' _ _ _ rfl, (Below.refl _ _).alloc (Nat.le_refl _) _⟩
  case round =>
    clear hm
    obtain ⟨k, hk, rfl, hB, hb⟩ := hrel
    have hUl := HUL.out
    have hZl := HZL.out
    by_cases hlt : k < 67
    · have d0 := (hB.cell k).trans ((partL_get _ _ k (by omega)).trans (HZG.out k hlt))
      have f0 := hB.frozen k
      have hlt2 := hB.lt
      have hgk := HG.out k hlt
      have hset : ∀ w' : World, Below wr.heap.size wr w' → Blk (w'.setCell ⟨w.heap.size, k, none⟩ (.string (secretB seed leaf k))) w.heap.size 9 (partL (U.map strV) Z (k + 1)) := by
        intro w' hb'
        have h2 := (hB.below hb' hlt2).set k ((U.map strV)[k]'(by omega))
        rw [partL_set _ _ k (by omega) (by omega), (List.getElem_eq_iff _).2 (strs_get? U k (by rw [HLU.out]; exact hlt)), hgk] at h2
        exact h2
      have hbset : ∀ w' : World, Below wr.heap.size wr w' → Below w.heap.size w (w'.setCell ⟨w.heap.size, k, none⟩ (.string (secretB seed leaf k))) := fun w' hb' => (hb.trans (hb'.mono hb.size)).setCell (p := ⟨w.heap.size, k, none⟩) (Nat.le_refl _) _
      have HSEK := Lib.hid (HSE.out wr k hlt (HT.out.below hb))
      have HSET := Lib.hid hset
      have HBS := Lib.hid hbset
      generalize secretB seed leaf k = z at *
      clear hset hbset hgk hB hb hUl hZl HSE HG
      go_wp2_with fail
      refine HSEK.out.mono ?_
      rintro e w1 ⟨rfl, b1⟩
      have d1 := (b1.cell (p := ⟨w.heap.size, k, none⟩) hlt2).trans d0
      have f1 := (b1.frozen (p := ⟨w.heap.size, k, none⟩) hlt2).trans f0
      have B1 := Lib.hid b1
      clear b1
      go_wp2
      go_roundw
      case rel => exact ⟨k + 1, by omega, by go_num, HSET.out _ B1.out, HBS.out _ B1.out⟩
      case measure => simp [intOf]; omega
    · obtain rfl : k = 67 := by omega
      have hall := partL_all (U.map strV) Z (by omega)
      rw [hUl] at hall
      rw [hall] at hB
      have HSR := Lib.hid (strRow_blk hB)
      have HB := Lib.hid hb
      have HLT := Lib.hid hB.lt
      clear hB hb hall hUl hZl
      rw [show ((67 : Nat) : Int) = 67 from rfl]
      go_wp2
      go_ret2
      exact ⟨rfl, HSR.out, HLT.out, HB.out⟩

set_option maxHeartbeats 1000000 in
set_option maxRecDepth 100000 in
theorem secrets_no (w : World) (seed : ByteArray) (leaf : Int) (h : leaf < 0 ∨ 65535 < leaf) (ml : leaf ≤ 9223372036854775807) :
    Calls Tryz.prog 88 #[.string seed, .int .i64 leaf] w fun e w' => e = .returned (.tuple #[.slice none 0 0, .bool false]) ∧ Below w.heap.size w w' := by
  have hm : (Instr.makeSlice 22 (.int .i64 67) (.int .i64 67)).run Tryz.prog w = .ok (.slice (some ⟨w.heap.size, 0, none⟩) 67 67) (w.alloc (.cells (List.replicate 67 (Value.string ⟨#[]⟩)).toArray 9)) := makeS 67 (by omega) w
  have HSE := Lib.hid (fun W => secret_no W seed leaf 0 (by omega) ml (by omega))
  generalize List.replicate 67 (Value.string ⟨#[]⟩) = Z at *
  clear h ml
  go_enter Tryz.func88, Tryz.ntmps88
  go_wp2
  refine wp_loop_rounds 2 ?_; rw [rounds_succ]
  go_wp2_with fail
  refine (HSE.out _).mono ?_
  rintro e w1 ⟨rfl, b1⟩
  have c0 := (Below.refl w.heap.size w).alloc (Nat.le_refl _) (.cells Z.toArray 9)
  have C1 := Lib.hid (c0.trans (b1.mono c0.size))
  clear b1 c0
  go_wp2
  go_ret2
  exact ⟨rfl, C1.out⟩

set_option maxHeartbeats 1000000 in
set_option maxRecDepth 100000 in
theorem walk_public (w : World) (b off cap : Nat) (vs : List ByteArray) (hv : StrRow w (some ⟨b, off, none⟩) vs) (_hbl : b < w.heap.size) (hlen : vs.length = 67) (hsm : SmallL vs) (ht : Tabs w) :
    Calls Tryz.prog 89 #[.slice (some ⟨b, off, none⟩) 67 cap, .func (.func 113) #[] #[]] w fun e w' => e = .returned (.slice (some ⟨w.heap.size, 0, none⟩) 67 67) ∧ StrRow w' (some ⟨w.heap.size, 0, none⟩) (walkL vs fun _ => 15) ∧ w.heap.size < w'.heap.size ∧ Below w.heap.size w w' := by
  have hm : (Instr.makeSlice 22 (.int .i64 67) (.int .i64 67)).run Tryz.prog w = .ok (.slice (some ⟨w.heap.size, 0, none⟩) 67 67) (w.alloc (.cells (List.replicate 67 (Value.string ⟨#[]⟩)).toArray 9)) := makeS 67 (by omega) w
  have HCH := Lib.hid (fun W (k : Nat) hT => chain_any W k 15 (vs.getD k ByteArray.empty) (hsm k) hT)
  rw [show stepsN 15 = 15 from rfl] at HCH
  have hget := fun k h => walkL_get vs (fun _ => 15) k h
  rw [hlen] at hget
  have HG := Lib.hid hget
  have HV := Lib.hid hv
  have HT := Lib.hid ht
  have hUl : ((walkL vs fun _ => 15).map strV).length = 67 := by rw [List.length_map, walkL_length, hlen]
  have HLU := Lib.hid (show (walkL vs fun _ => 15).length = 67 by rw [walkL_length, hlen])
  have HCK := Lib.hid (fun (W : World) (h : StrRow W (some ⟨b, off, none⟩) vs) k (hk : k < 67) => (show W.cell? ⟨b, off + k, none⟩ = some (.string (vs.getD k ByteArray.empty)) from by
    rcases h with h | ⟨b2, o2, he, _, hc⟩
    · rw [h] at hlen; simp at hlen
    · cases he; exact hc k (by omega)))
  generalize (walkL vs fun _ => 15) = U at *
  generalize hZ : List.replicate 67 (Value.string ⟨#[]⟩) = Z at *
  have hZl : Z.length = 67 := by rw [← hZ]; simp
  have hZg : ∀ k, k < 67 → Z[k]? = some (.string ⟨#[]⟩) := fun k hk => by rw [← hZ, List.getElem?_replicate, if_pos hk]
  have HZG := Lib.hid hZg
  have HUL := Lib.hid hUl
  have HZL := Lib.hid hZl
  clear ht hZ hZg hUl hZl hget hv hlen hsm
  go_enter Tryz.func89, Tryz.ntmps89
  go_wp2
  go_loopw [13] (fun i wr => ∃ k : Nat, k ≤ 67 ∧ i = .int .i64 k ∧ Blk wr w.heap.size 9 (partL (U.map strV) Z k) ∧ Below w.heap.size w wr) (fun i _ => 67 - (intOf i).toNat)
  case atStart => exact ⟨0, by omega, rfl, by rw [partL_zero]; exact Blk.new' _ _ _ rfl, (Below.refl _ _).alloc (Nat.le_refl _) _⟩
  case round =>
    clear hm
    obtain ⟨k, hk, rfl, hB, hb⟩ := hrel
    have hUl := HUL.out
    have hZl := HZL.out
    by_cases hlt : k < 67
    · have d0 := (hB.cell k).trans ((partL_get _ _ k (by omega)).trans (HZG.out k hlt))
      have f0 := hB.frozen k
      have hlt2 := hB.lt
      have hgk := HG.out k hlt
      have ck := HCK.out wr (HV.out.below hb) k hlt
      have hset : ∀ w' : World, Below wr.heap.size wr w' → Blk (w'.setCell ⟨w.heap.size, k, none⟩ (.string (chainB k (vs.getD k ByteArray.empty) 15))) w.heap.size 9 (partL (U.map strV) Z (k + 1)) := by
        intro w' hb'
        have h2 := (hB.below hb' hlt2).set k ((U.map strV)[k]'(by omega))
        rw [partL_set _ _ k (by omega) (by omega), (List.getElem_eq_iff _).2 (strs_get? U k (by rw [HLU.out]; exact hlt)), hgk] at h2
        exact h2
      have hbset : ∀ (z : ByteArray) (w' : World), Below wr.heap.size wr w' → Below w.heap.size w (w'.setCell ⟨w.heap.size, k, none⟩ (.string z)) := fun z w' hb' => (hb.trans (hb'.mono hb.size)).setCell (p := ⟨w.heap.size, k, none⟩) (Nat.le_refl _) _
      have HCHK := Lib.hid (HCH.out wr k (HT.out.below hb))
      have HSET := Lib.hid hset
      have HBS := Lib.hid hbset
      generalize chainB k (vs.getD k ByteArray.empty) 15 = z at *
      generalize vs.getD k ByteArray.empty = y at *
      clear hset hbset hgk hB hb hUl hZl HCH HG HCK
      go_wp2_with (first | (go_at_call 116; refine HCHK.out.mono ?_; rintro e w1 ⟨rfl, b1⟩; have d1 := (b1.cell (p := ⟨w.heap.size, k, none⟩) hlt2).trans d0; have f1 := (b1.frozen (p := ⟨w.heap.size, k, none⟩) hlt2).trans f0) | go_in)
      go_roundw
      case rel => exact ⟨k + 1, by omega, by go_num, HSET.out _ b1, HBS.out _ _ b1⟩
      case measure => simp [intOf]; omega
    · obtain rfl : k = 67 := by omega
      have hall := partL_all (U.map strV) Z (by omega)
      rw [hUl] at hall
      rw [hall] at hB
      have HSR := Lib.hid (strRow_blk hB)
      have HB := Lib.hid hb
      have HLT := Lib.hid hB.lt
      clear hB hb hall hUl hZl
      rw [show ((67 : Nat) : Int) = 67 from rfl]
      go_wp2
      go_ret
      exact ⟨rfl, HSR.out, HLT.out, HB.out⟩


set_option maxHeartbeats 1000000 in
set_option maxRecDepth 100000 in
theorem walk_sign (w : World) (b off cap : Nat) (vs : List ByteArray) (db dg dc : Nat) (dl : List Nat) (hdp : w.cell? ⟨db, 0, none⟩ = some (.slice (some ⟨dg, 0, none⟩) 67 dc)) (hdc : ∀ k, k < 67 → w.cell? ⟨dg, k, none⟩ = some (.int .i64 (dl.getD k 0 : Nat))) (hdb : db < w.heap.size) (hdg : dg < w.heap.size) (hd16 : ∀ k, dl.getD k 0 < 16) (hv : StrRow w (some ⟨b, off, none⟩) vs) (_hbl : b < w.heap.size) (hlen : vs.length = 67) (hsm : SmallL vs) (ht : Tabs w) :
    Calls Tryz.prog 89 #[.slice (some ⟨b, off, none⟩) 67 cap, .func (.func 90) #[] #[.pointer (some ⟨db, 0, none⟩)]] w fun e w' => e = .returned (.slice (some ⟨w.heap.size, 0, none⟩) 67 67) ∧ StrRow w' (some ⟨w.heap.size, 0, none⟩) (walkL vs fun k => dl.getD k 0) ∧ w.heap.size < w'.heap.size ∧ Below w.heap.size w w' := by
  have hm : (Instr.makeSlice 22 (.int .i64 67) (.int .i64 67)).run Tryz.prog w = .ok (.slice (some ⟨w.heap.size, 0, none⟩) 67 67) (w.alloc (.cells (List.replicate 67 (Value.string ⟨#[]⟩)).toArray 9)) := makeS 67 (by omega) w
  have HCH := Lib.hid (fun W (k : Nat) hT => (show Calls Tryz.prog 116 #[.int .i64 (k : Int), .string (vs.getD k ByteArray.empty), .int .i64 (((dl.getD k 0 : Nat) : Int))] W fun e w' => e = .returned (.string (chainB k (vs.getD k ByteArray.empty) (dl.getD k 0))) ∧ Below W.heap.size W w' from by
    have h := chain_any W k (((dl.getD k 0 : Nat) : Int)) (vs.getD k ByteArray.empty) (hsm k) hT
    have hd := hd16 k
    rw [show stepsN (((dl.getD k 0 : Nat) : Int)) = dl.getD k 0 from by first | exact stepsN_nat _ (by omega) | (rw [show (15 : Int) - ((dl.getD k 0 : Nat) : Int) = ((15 - dl.getD k 0 : Nat) : Int) by omega]; exact stepsN_nat _ (by omega))] at h
    exact h))
  have hget := fun k h => walkL_get vs (fun k => dl.getD k 0) k h
  rw [hlen] at hget
  have HG := Lib.hid hget
  have HV := Lib.hid hv
  have HT := Lib.hid ht
  have HDC := Lib.hid hdc
  have H16 := Lib.hid hd16
  have hUl : ((walkL vs fun k => dl.getD k 0).map strV).length = 67 := by rw [List.length_map, walkL_length, hlen]
  have HLU := Lib.hid (show (walkL vs fun k => dl.getD k 0).length = 67 by rw [walkL_length, hlen])
  have HCK := Lib.hid (fun (W : World) (h : StrRow W (some ⟨b, off, none⟩) vs) k (hk : k < 67) => (show W.cell? ⟨b, off + k, none⟩ = some (.string (vs.getD k ByteArray.empty)) from by
    rcases h with h | ⟨b2, o2, he, _, hc⟩
    · rw [h] at hlen; simp at hlen
    · cases he; exact hc k (by omega)))
  generalize (walkL vs fun k => dl.getD k 0) = U at *
  generalize hZ : List.replicate 67 (Value.string ⟨#[]⟩) = Z at *
  have hZl : Z.length = 67 := by rw [← hZ]; simp
  have hZg : ∀ k, k < 67 → Z[k]? = some (.string ⟨#[]⟩) := fun k hk => by rw [← hZ, List.getElem?_replicate, if_pos hk]
  have HZG := Lib.hid hZg
  have HUL := Lib.hid hUl
  have HZL := Lib.hid hZl
  clear ht hZ hZg hUl hZl hget hv hlen hsm hdc hd16
  go_enter Tryz.func89, Tryz.ntmps89
  go_wp2
  go_loopw [13] (fun i wr => ∃ k : Nat, k ≤ 67 ∧ i = .int .i64 k ∧ Blk wr w.heap.size 9 (partL (U.map strV) Z k) ∧ Below w.heap.size w wr) (fun i _ => 67 - (intOf i).toNat)
  case atStart => exact ⟨0, by omega, rfl, by rw [partL_zero]; exact Blk.new' _ _ _ rfl, (Below.refl _ _).alloc (Nat.le_refl _) _⟩
  case round =>
    clear hm
    obtain ⟨k, hk, rfl, hB, hb⟩ := hrel
    have hUl := HUL.out
    have hZl := HZL.out
    by_cases hlt : k < 67
    · have d0 := (hB.cell k).trans ((partL_get _ _ k (by omega)).trans (HZG.out k hlt))
      have f0 := hB.frozen k
      have hlt2 := hB.lt
      have hgk := HG.out k hlt
      have ck := HCK.out wr (HV.out.below hb) k hlt
      have p0 := (hb.cell (p := ⟨db, 0, none⟩) hdb).trans hdp
      have p1 := (hb.cell (p := ⟨dg, k, none⟩) hdg).trans (HDC.out k hlt)
      have hd := H16.out k
      have hset : ∀ w' : World, Below wr.heap.size wr w' → Blk (w'.setCell ⟨w.heap.size, k, none⟩ (.string (chainB k (vs.getD k ByteArray.empty) (dl.getD k 0)))) w.heap.size 9 (partL (U.map strV) Z (k + 1)) := by
        intro w' hb'
        have h2 := (hB.below hb' hlt2).set k ((U.map strV)[k]'(by omega))
        rw [partL_set _ _ k (by omega) (by omega), (List.getElem_eq_iff _).2 (strs_get? U k (by rw [HLU.out]; exact hlt)), hgk] at h2
        exact h2
      have hbset : ∀ (z : ByteArray) (w' : World), Below wr.heap.size wr w' → Below w.heap.size w (w'.setCell ⟨w.heap.size, k, none⟩ (.string z)) := fun z w' hb' => (hb.trans (hb'.mono hb.size)).setCell (p := ⟨w.heap.size, k, none⟩) (Nat.le_refl _) _
      have HCHK := Lib.hid (HCH.out wr k (HT.out.below hb))
      have HSET := Lib.hid hset
      have HBS := Lib.hid hbset
      generalize chainB k (vs.getD k ByteArray.empty) (dl.getD k 0) = z at *
      generalize vs.getD k ByteArray.empty = y at *
      generalize dl.getD k 0 = dk at *
      clear hset hbset hgk hB hb hUl hZl HCH HG HCK
      go_wp2_with (first | (go_at_call 116; refine HCHK.out.mono ?_; rintro e w1 ⟨rfl, b1⟩; have d1 := (b1.cell (p := ⟨w.heap.size, k, none⟩) hlt2).trans d0; have f1 := (b1.frozen (p := ⟨w.heap.size, k, none⟩) hlt2).trans f0) | go_in)
      go_roundw
      case rel => exact ⟨k + 1, by omega, by go_num, HSET.out _ b1, HBS.out _ _ b1⟩
      case measure => simp [intOf]; omega
    · obtain rfl : k = 67 := by omega
      have hall := partL_all (U.map strV) Z (by omega)
      rw [hUl] at hall
      rw [hall] at hB
      have HSR := Lib.hid (strRow_blk hB)
      have HB := Lib.hid hb
      have HLT := Lib.hid hB.lt
      clear hB hb hall hUl hZl
      rw [show ((67 : Nat) : Int) = 67 from rfl]
      go_wp2
      go_ret
      exact ⟨rfl, HSR.out, HLT.out, HB.out⟩

set_option maxHeartbeats 1000000 in
set_option maxRecDepth 100000 in
theorem walk_recover (w : World) (b off cap : Nat) (vs : List ByteArray) (db dg dc : Nat) (dl : List Nat) (hdp : w.cell? ⟨db, 0, none⟩ = some (.slice (some ⟨dg, 0, none⟩) 67 dc)) (hdc : ∀ k, k < 67 → w.cell? ⟨dg, k, none⟩ = some (.int .i64 (dl.getD k 0 : Nat))) (hdb : db < w.heap.size) (hdg : dg < w.heap.size) (hd16 : ∀ k, dl.getD k 0 < 16) (hv : StrRow w (some ⟨b, off, none⟩) vs) (_hbl : b < w.heap.size) (hlen : vs.length = 67) (hsm : SmallL vs) (ht : Tabs w) :
    Calls Tryz.prog 89 #[.slice (some ⟨b, off, none⟩) 67 cap, .func (.func 103) #[] #[.pointer (some ⟨db, 0, none⟩)]] w fun e w' => e = .returned (.slice (some ⟨w.heap.size, 0, none⟩) 67 67) ∧ StrRow w' (some ⟨w.heap.size, 0, none⟩) (walkL vs fun k => 15 - dl.getD k 0) ∧ w.heap.size < w'.heap.size ∧ Below w.heap.size w w' := by
  have hm : (Instr.makeSlice 22 (.int .i64 67) (.int .i64 67)).run Tryz.prog w = .ok (.slice (some ⟨w.heap.size, 0, none⟩) 67 67) (w.alloc (.cells (List.replicate 67 (Value.string ⟨#[]⟩)).toArray 9)) := makeS 67 (by omega) w
  have HCH := Lib.hid (fun W (k : Nat) hT => (show Calls Tryz.prog 116 #[.int .i64 (k : Int), .string (vs.getD k ByteArray.empty), .int .i64 ((15 : Int) - ((dl.getD k 0 : Nat) : Int))] W fun e w' => e = .returned (.string (chainB k (vs.getD k ByteArray.empty) (15 - dl.getD k 0))) ∧ Below W.heap.size W w' from by
    have h := chain_any W k ((15 : Int) - ((dl.getD k 0 : Nat) : Int)) (vs.getD k ByteArray.empty) (hsm k) hT
    have hd := hd16 k
    rw [show stepsN ((15 : Int) - ((dl.getD k 0 : Nat) : Int)) = 15 - dl.getD k 0 from by first | exact stepsN_nat _ (by omega) | (rw [show (15 : Int) - ((dl.getD k 0 : Nat) : Int) = ((15 - dl.getD k 0 : Nat) : Int) by omega]; exact stepsN_nat _ (by omega))] at h
    exact h))
  have hget := fun k h => walkL_get vs (fun k => 15 - dl.getD k 0) k h
  rw [hlen] at hget
  have HG := Lib.hid hget
  have HV := Lib.hid hv
  have HT := Lib.hid ht
  have HDC := Lib.hid hdc
  have H16 := Lib.hid hd16
  have hUl : ((walkL vs fun k => 15 - dl.getD k 0).map strV).length = 67 := by rw [List.length_map, walkL_length, hlen]
  have HLU := Lib.hid (show (walkL vs fun k => 15 - dl.getD k 0).length = 67 by rw [walkL_length, hlen])
  have HCK := Lib.hid (fun (W : World) (h : StrRow W (some ⟨b, off, none⟩) vs) k (hk : k < 67) => (show W.cell? ⟨b, off + k, none⟩ = some (.string (vs.getD k ByteArray.empty)) from by
    rcases h with h | ⟨b2, o2, he, _, hc⟩
    · rw [h] at hlen; simp at hlen
    · cases he; exact hc k (by omega)))
  generalize (walkL vs fun k => 15 - dl.getD k 0) = U at *
  generalize hZ : List.replicate 67 (Value.string ⟨#[]⟩) = Z at *
  have hZl : Z.length = 67 := by rw [← hZ]; simp
  have hZg : ∀ k, k < 67 → Z[k]? = some (.string ⟨#[]⟩) := fun k hk => by rw [← hZ, List.getElem?_replicate, if_pos hk]
  have HZG := Lib.hid hZg
  have HUL := Lib.hid hUl
  have HZL := Lib.hid hZl
  clear ht hZ hZg hUl hZl hget hv hlen hsm hdc hd16
  go_enter Tryz.func89, Tryz.ntmps89
  go_wp2
  go_loopw [13] (fun i wr => ∃ k : Nat, k ≤ 67 ∧ i = .int .i64 k ∧ Blk wr w.heap.size 9 (partL (U.map strV) Z k) ∧ Below w.heap.size w wr) (fun i _ => 67 - (intOf i).toNat)
  case atStart => exact ⟨0, by omega, rfl, by rw [partL_zero]; exact Blk.new' _ _ _ rfl, (Below.refl _ _).alloc (Nat.le_refl _) _⟩
  case round =>
    clear hm
    obtain ⟨k, hk, rfl, hB, hb⟩ := hrel
    have hUl := HUL.out
    have hZl := HZL.out
    by_cases hlt : k < 67
    · have d0 := (hB.cell k).trans ((partL_get _ _ k (by omega)).trans (HZG.out k hlt))
      have f0 := hB.frozen k
      have hlt2 := hB.lt
      have hgk := HG.out k hlt
      have ck := HCK.out wr (HV.out.below hb) k hlt
      have p0 := (hb.cell (p := ⟨db, 0, none⟩) hdb).trans hdp
      have p1 := (hb.cell (p := ⟨dg, k, none⟩) hdg).trans (HDC.out k hlt)
      have hd := H16.out k
      have hset : ∀ w' : World, Below wr.heap.size wr w' → Blk (w'.setCell ⟨w.heap.size, k, none⟩ (.string (chainB k (vs.getD k ByteArray.empty) (15 - dl.getD k 0)))) w.heap.size 9 (partL (U.map strV) Z (k + 1)) := by
        intro w' hb'
        have h2 := (hB.below hb' hlt2).set k ((U.map strV)[k]'(by omega))
        rw [partL_set _ _ k (by omega) (by omega), (List.getElem_eq_iff _).2 (strs_get? U k (by rw [HLU.out]; exact hlt)), hgk] at h2
        exact h2
      have hbset : ∀ (z : ByteArray) (w' : World), Below wr.heap.size wr w' → Below w.heap.size w (w'.setCell ⟨w.heap.size, k, none⟩ (.string z)) := fun z w' hb' => (hb.trans (hb'.mono hb.size)).setCell (p := ⟨w.heap.size, k, none⟩) (Nat.le_refl _) _
      have HCHK := Lib.hid (HCH.out wr k (HT.out.below hb))
      have HSET := Lib.hid hset
      have HBS := Lib.hid hbset
      generalize chainB k (vs.getD k ByteArray.empty) (15 - dl.getD k 0) = z at *
      generalize vs.getD k ByteArray.empty = y at *
      generalize dl.getD k 0 = dk at *
      clear hset hbset hgk hB hb hUl hZl HCH HG HCK
      go_wp2_with (first | (go_at_call 116; refine HCHK.out.mono ?_; rintro e w1 ⟨rfl, b1⟩; have d1 := (b1.cell (p := ⟨w.heap.size, k, none⟩) hlt2).trans d0; have f1 := (b1.frozen (p := ⟨w.heap.size, k, none⟩) hlt2).trans f0) | go_in)
      go_roundw
      case rel => exact ⟨k + 1, by omega, by go_num, HSET.out _ b1, HBS.out _ _ b1⟩
      case measure => simp [intOf]; omega
    · obtain rfl : k = 67 := by omega
      have hall := partL_all (U.map strV) Z (by omega)
      rw [hUl] at hall
      rw [hall] at hB
      have HSR := Lib.hid (strRow_blk hB)
      have HB := Lib.hid hb
      have HLT := Lib.hid hB.lt
      clear hB hb hall hUl hZl
      rw [show ((67 : Nat) : Int) = 67 from rfl]
      go_wp2
      go_ret
      exact ⟨rfl, HSR.out, HLT.out, HB.out⟩


end Go.Proofs.YtggfmnmopfdiaaaGreatDoor
namespace Go.Pal
open Go.RowKit
theorem totL_le (l : List ByteArray) (B : Nat) (h : ∀ i, (l.getD i ByteArray.empty).size ≤ B) : totL l ≤ l.length * (4 + B) := by
  induction l with
  | nil => simp [totL]
  | cons x l ih =>
    have e : totL (x :: l) = (4 + x.size) + totL l := by simp [totL]
    have h0 : x.size ≤ B := by simpa using h 0
    have h1 := ih (fun i => by simpa using h (i + 1))
    rw [e, List.length_cons, Nat.succ_mul]; omega
theorem chainB_le (k : Int) (x : ByteArray) (B : Nat) (hB : 32 ≤ B) (hx : x.size ≤ B) : ∀ n, (chainB k x n).size ≤ B
  | 0 => hx
  | n + 1 => by rw [chainB, stepB, shaB_size']; exact hB
theorem walkL_le (vs : List ByteArray) (st : Nat → Nat) (B : Nat) (hB : 32 ≤ B) (h : ∀ i, (vs.getD i ByteArray.empty).size ≤ B) (i : Nat) : ((walkL vs st).getD i ByteArray.empty).size ≤ B := by
  by_cases hi : i < vs.length
  · rw [walkL_get vs st i hi]; exact chainB_le _ _ B hB (h i) _
  · rw [List.getD_eq_getElem?_getD, List.getElem?_eq_none (by rw [walkL_length]; omega)]
    show ByteArray.empty.size ≤ _; exact Nat.zero_le _
theorem secretsL_le (seed : ByteArray) (leaf i : Nat) : ((secretsL seed leaf).getD i ByteArray.empty).size ≤ 32 := by
  by_cases hi : i < 67
  · rw [secretsL_get seed leaf i hi, secretB, shaB_size']; exact Nat.le_refl _
  · rw [List.getD_eq_getElem?_getD, List.getElem?_eq_none (by rw [secretsL_length]; omega)]
    show ByteArray.empty.size ≤ _; exact Nat.zero_le _
theorem secrets_small (seed : ByteArray) (leaf : Nat) : SmallL (secretsL seed leaf) := fun i => by have := secretsL_le seed leaf i; omega
def endsL (seed : ByteArray) (leaf : Nat) : List ByteArray := walkL (secretsL seed leaf) fun _ => 15
def publicB (seed : ByteArray) (leaf : Nat) : ByteArray := shaB ⟨(inputL 3 (endsL seed leaf)).toArray⟩
def signL (seed : ByteArray) (leaf : Nat) (dl : List Nat) : List ByteArray := walkL (secretsL seed leaf) fun k => dl.getD k 0
def recoverB (dl : List Nat) (vs : List ByteArray) : ByteArray := shaB ⟨(inputL 3 (walkL vs fun k => 15 - dl.getD k 0)).toArray⟩
theorem chainB_add (k : Int) (x : ByteArray) (m : Nat) : ∀ n, chainB k (chainB k x m) n = chainB k x (m + n)
  | 0 => rfl
  | n + 1 => by rw [chainB, chainB_add k x m n]; rfl
/-- What is signed is recovered. -/
theorem sign_back (seed : ByteArray) (leaf : Nat) (dl : List Nat) (h : ∀ k, dl.getD k 0 < 16) : recoverB dl (signL seed leaf dl) = publicB seed leaf := by
  unfold recoverB publicB
  congr 4
  unfold endsL signL
  apply List.ext_getElem?
  intro k
  by_cases hk : k < 67
  · have l1 : (walkL (walkL (secretsL seed leaf) fun k => dl.getD k 0) fun k => 15 - dl.getD k 0).length = 67 := by rw [walkL_length, walkL_length, secretsL_length]
    have l2 : (walkL (secretsL seed leaf) fun _ => 15).length = 67 := by rw [walkL_length, secretsL_length]
    have g1 := walkL_get (walkL (secretsL seed leaf) fun k => dl.getD k 0) (fun k => 15 - dl.getD k 0) k (by rw [walkL_length, secretsL_length]; exact hk)
    rw [walkL_get (secretsL seed leaf) (fun k => dl.getD k 0) k (by rw [secretsL_length]; exact hk), chainB_add] at g1
    have g2 := walkL_get (secretsL seed leaf) (fun _ => 15) k (by rw [secretsL_length]; exact hk)
    have hd := h k
    rw [show dl.getD k 0 + (15 - dl.getD k 0) = 15 by omega, ← g2] at g1
    rw [List.getD_eq_getElem?_getD, List.getD_eq_getElem?_getD, List.getElem?_eq_getElem (by omega), List.getElem?_eq_getElem (by omega)] at g1
    rw [List.getElem?_eq_getElem (by omega), List.getElem?_eq_getElem (by omega)]
    exact congrArg some g1
  · rw [List.getElem?_eq_none (by rw [walkL_length, walkL_length, secretsL_length]; omega), List.getElem?_eq_none (by rw [walkL_length, secretsL_length]; omega)]
end Go.Pal
namespace Go.Proofs.YtggfmnmopfdiaaaGreatDoor
open Go.RowKit Go.Pal

set_option maxHeartbeats 1000000 in
theorem public_yes (w : World) (seed : ByteArray) (leaf : Nat) (hl : leaf ≤ 65535) (hs : seed.size ≤ 1000000) (ht : Tabs w) :
    Calls Tryz.prog 83 #[.string seed, .int .i64 leaf] w fun e w' => e = .returned (.tuple #[.string (publicB seed leaf), .bool true]) ∧ Below w.heap.size w w' := by
  have HSE := Lib.hid (secrets_yes w seed leaf hl hs ht)
  have HW := Lib.hid (fun W b h1 h2 hT => walk_public W b 0 67 (secretsL seed leaf) h1 h2 (secretsL_length _ _) (secrets_small _ _) hT)
  have hel : (endsL seed leaf).length = 67 := by rw [endsL, walkL_length, secretsL_length]
  have htot : totL (endsL seed leaf) ≤ 2147483647 := by
    have := totL_le (endsL seed leaf) 32 (walkL_le _ _ 32 (by omega) (secretsL_le seed leaf))
    rw [hel] at this; omega
  have HTG := Lib.hid (fun W a c hT h => tag_any W 3 a c (endsL seed leaf) hT h htot (by omega))
  rw [hel] at HTG
  have hp : publicB seed leaf = shaB ⟨(inputL 3 (endsL seed leaf)).toArray⟩ := rfl
  rw [← hp] at HTG
  rw [show (walkL (secretsL seed leaf) fun _ => 15) = endsL seed leaf from rfl] at HW
  have HT := Lib.hid ht
  generalize publicB seed leaf = P at *
  generalize endsL seed leaf = E at *
  generalize secretsL seed leaf = S at *
  clear ht hel htot hp
  go_enter Tryz.func83, Tryz.ntmps83
  go_wp2_with fail
  refine HSE.out.mono ?_
  rintro e w1 ⟨rfl, r1, z1, b1⟩
  have B1 := Lib.hid b1
  have R1 := Lib.hid r1
  have Z1 := Lib.hid z1
  clear b1 r1 z1
  go_wp2_with fail
  refine (HW.out _ _ R1.out Z1.out (HT.out.below B1.out)).mono ?_
  rintro e w2 ⟨rfl, r2, z2, b2⟩
  have B2 := Lib.hid (B1.out.trans (b2.mono B1.out.size))
  have R2 := Lib.hid r2
  clear b2 r2 z2
  go_wp2_with fail
  refine (HTG.out _ _ _ (HT.out.below B2.out) R2.out).mono ?_
  rintro e w3 ⟨rfl, b3⟩
  have B3 := Lib.hid (B2.out.trans (b3.mono B2.out.size))
  clear b3
  go_wp2
  go_ret2
  exact ⟨rfl, B3.out⟩

set_option maxHeartbeats 400000 in
theorem public_no (w : World) (seed : ByteArray) (leaf : Int) (h : leaf < 0 ∨ 65535 < leaf) (ml : leaf ≤ 9223372036854775807) :
    Calls Tryz.prog 83 #[.string seed, .int .i64 leaf] w fun e w' => e = .returned (.tuple #[.string ⟨#[]⟩, .bool false]) ∧ Below w.heap.size w w' := by
  have HSE := Lib.hid (secrets_no w seed leaf h ml)
  clear h ml
  go_enter Tryz.func83, Tryz.ntmps83
  go_wp2_with fail
  refine HSE.out.mono ?_
  rintro e w1 ⟨rfl, b1⟩
  have B1 := Lib.hid b1
  clear b1
  go_wp2
  go_ret2
  exact ⟨rfl, B1.out⟩

set_option maxHeartbeats 1000000 in
set_option maxRecDepth 100000 in
theorem sign_yes (w : World) (seed : ByteArray) (leaf : Nat) (d : ByteArray) (hl : leaf ≤ 65535) (hs : seed.size ≤ 1000000) (hd : d.size = 32) (ht : Tabs w) :
    Calls Tryz.prog 55 #[.string seed, .int .i64 leaf, .string d] w fun e w' => (∃ g, e = .returned (.tuple #[.slice (some ⟨g, 0, none⟩) 67 67, .bool true]) ∧ StrRow w' (some ⟨g, 0, none⟩) (signL seed leaf (digL d.data.toList)) ∧ g < w'.heap.size) ∧ Below w.heap.size w w' := by
  have hmf : ∀ (fn : Fn) (first cap : Array Value) (w : World), (Instr.makeFunc fn first cap).run Tryz.prog w = .ok (.func fn first cap) w := fun _ _ _ _ => rfl
  have HD := Lib.hid (digits_yes d hd w)
  have HSE := Lib.hid (fun W hT => secrets_yes W seed leaf hl hs hT)
  have hdl := digL_length d.data.toList
  have h16 := getD_lt (digL d.data.toList) 16 (by omega) (digL_lt d.data.toList (by simp; omega))
  rw [show d.data.toList.length = 32 by simp [hd]] at hdl
  rw [show signL seed leaf (digL d.data.toList) = walkL (secretsL seed leaf) fun k => (digL d.data.toList).getD k 0 from rfl]
  generalize digL d.data.toList = dl at *
  have HW := Lib.hid (fun W b db dg dc h1 h2 h3 h4 h5 h6 hT => walk_sign W b 0 67 (secretsL seed leaf) db dg dc dl h1 h2 h3 h4 h16 h5 h6 (secretsL_length _ _) (secrets_small _ _) hT)
  have HT := Lib.hid ht
  have HDL := Lib.hid hdl
  obtain ⟨Wl, hWl⟩ : ∃ Wl, Wl = walkL (secretsL seed leaf) fun k => dl.getD k 0 := ⟨_, rfl⟩
  rw [← hWl] at HW ⊢
  generalize secretsL seed leaf = S at *
  clear ht hdl h16 hWl
  go_enter Tryz.func55, Tryz.ntmps55
  go_wp2_with fail
  refine HD.out.mono ?_
  rintro e w1 ⟨⟨v, rfl, hown⟩, b1⟩
  obtain ⟨dg, dc, rfl, _, hdg⟩ := hown.form (by omega)
  have HDC := Lib.hid (fun k (hk : k < 67) => (hown.cellAt k (by omega)).trans (ints_get? dl k (by have := HDL.out; omega)))
  have B1 := Lib.hid b1
  clear b1 hown
  go_wp2_with fail
  have c2 := B1.out.alloc B1.out.size (.cells #[.slice (some ⟨dg, 0, none⟩) 67 dc] 104)
  refine (HSE.out _ (HT.out.below c2)).mono ?_
  rintro e w3 ⟨rfl, r3, z3, b3⟩
  rw [show (w1.alloc (.cells #[.slice (some ⟨dg, 0, none⟩) 67 dc] 104)).heap.size = w1.heap.size + 1 by simp] at r3 z3
  have B3 := Lib.hid (c2.trans (b3.mono c2.size))
  have R3 := Lib.hid r3
  have Z3 := Lib.hid z3
  have hnew : (w1.alloc (.cells #[.slice (some ⟨dg, 0, none⟩) 67 dc] 104)).cell? ⟨w1.heap.size, 0, none⟩ = some (.slice (some ⟨dg, 0, none⟩) 67 dc) := (Blk.new w1 104 [.slice (some ⟨dg, 0, none⟩) 67 dc]).cell 0
  have P0 := Lib.hid ((b3.cell (p := ⟨w1.heap.size, 0, none⟩) (by simp)).trans hnew)
  have P1 := Lib.hid (fun k (hk : k < 67) => (b3.cell (p := ⟨dg, k, none⟩) (by simp; omega)).trans ((World.cell?_of_block (heap_alloc_old w1 _ hdg)).trans (HDC.out k hk)))
  have L0 : Hid (w1.heap.size < w3.heap.size) := Lib.hid (by have := b3.size; simp at this; omega)
  clear b3 c2 r3 z3 hnew
  go_wp2_with fail
  refine (HW.out _ _ _ _ _ P0.out P1.out L0.out (Nat.lt_trans hdg L0.out) R3.out Z3.out (HT.out.below B3.out)).mono ?_
  rintro e w4 ⟨rfl, r4, z4, b4⟩
  have B4 := Lib.hid (B3.out.trans (b4.mono B3.out.size))
  have R4 := Lib.hid r4
  have Z4 := Lib.hid z4
  clear b4 r4 z4
  go_wp2
  go_ret2
  exact ⟨⟨_, rfl, R4.out, Z4.out⟩, B4.out⟩

set_option maxHeartbeats 1000000 in
set_option maxRecDepth 100000 in
theorem recover_yes (w : World) (d : ByteArray) (b off cap : Nat) (vs : List ByteArray) (hd : d.size = 32) (hv : StrRow w (some ⟨b, off, none⟩) vs) (hbl : b < w.heap.size) (hlen : vs.length = 67) (hsm : SmallL vs) (ht : Tabs w) :
    Calls Tryz.prog 73 #[.string d, .slice (some ⟨b, off, none⟩) 67 cap] w fun e w' => e = .returned (.tuple #[.string (recoverB (digL d.data.toList) vs), .bool true]) ∧ Below w.heap.size w w' := by
  have hmf : ∀ (fn : Fn) (first cap : Array Value) (w : World), (Instr.makeFunc fn first cap).run Tryz.prog w = .ok (.func fn first cap) w := fun _ _ _ _ => rfl
  have HD := Lib.hid (digits_yes d hd w)
  have hdl := digL_length d.data.toList
  have h16 := getD_lt (digL d.data.toList) 16 (by omega) (digL_lt d.data.toList (by simp; omega))
  rw [show d.data.toList.length = 32 by simp [hd]] at hdl
  generalize digL d.data.toList = dl at *
  have HW := Lib.hid (fun W db dg dc h1 h2 h3 h4 h5 h6 hT => walk_recover W b off cap vs db dg dc dl h1 h2 h3 h4 h16 h5 h6 hlen hsm hT)
  have hel : (walkL vs fun k => 15 - dl.getD k 0).length = 67 := by rw [walkL_length, hlen]
  have htot : totL (walkL vs fun k => 15 - dl.getD k 0) ≤ 2147483647 := by
    have := totL_le (walkL vs fun k => 15 - dl.getD k 0) 1000000 (walkL_le _ _ 1000000 (by omega) hsm)
    rw [hel] at this; omega
  have HTG := Lib.hid (fun W a c hT h => tag_any W 3 a c (walkL vs fun k => 15 - dl.getD k 0) hT h htot (by omega))
  rw [hel] at HTG
  have hp : recoverB dl vs = shaB ⟨(inputL 3 (walkL vs fun k => 15 - dl.getD k 0)).toArray⟩ := rfl
  rw [← hp] at HTG
  generalize recoverB dl vs = P at *
  obtain ⟨Wl, hWl⟩ : ∃ Wl, Wl = walkL vs fun k => 15 - dl.getD k 0 := ⟨_, rfl⟩
  rw [← hWl] at HW HTG
  have HT := Lib.hid ht
  have HV := Lib.hid hv
  have HDL := Lib.hid hdl
  clear ht hdl h16 hel htot hp hsm hlen hv hWl
  go_enter Tryz.func73, Tryz.ntmps73
  go_wp2_with fail
  refine HD.out.mono ?_
  rintro e w1 ⟨⟨v, rfl, hown⟩, b1⟩
  obtain ⟨dg, dc, rfl, _, hdg⟩ := hown.form (by omega)
  have HDC := Lib.hid (fun k (hk : k < 67) => (hown.cellAt k (by omega)).trans (ints_get? dl k (by have := HDL.out; omega)))
  have B1 := Lib.hid b1
  clear b1 hown
  go_wp2_with fail
  have c2 := B1.out.alloc B1.out.size (.cells #[.slice (some ⟨dg, 0, none⟩) 67 dc] 104)
  have hnew : (w1.alloc (.cells #[.slice (some ⟨dg, 0, none⟩) 67 dc] 104)).cell? ⟨w1.heap.size, 0, none⟩ = some (.slice (some ⟨dg, 0, none⟩) 67 dc) := (Blk.new w1 104 [.slice (some ⟨dg, 0, none⟩) 67 dc]).cell 0
  refine (HW.out _ _ _ _ hnew (fun k hk => (World.cell?_of_block (heap_alloc_old w1 _ hdg)).trans (HDC.out k hk)) (by simp) (by simp; omega) (HV.out.below c2) (Nat.lt_of_lt_of_le hbl c2.size) (HT.out.below c2)).mono ?_
  rintro e w4 ⟨rfl, r4, z4, b4⟩
  rw [show (w1.alloc (.cells #[.slice (some ⟨dg, 0, none⟩) 67 dc] 104)).heap.size = w1.heap.size + 1 by simp] at r4
  have B4 := Lib.hid (c2.trans (b4.mono c2.size))
  have R4 := Lib.hid r4
  clear b4 r4 z4 c2 hnew
  go_wp2_with fail
  refine (HTG.out _ _ _ (HT.out.below B4.out) R4.out).mono ?_
  rintro e w5 ⟨rfl, b5⟩
  have B5 := Lib.hid (B4.out.trans (b5.mono B4.out.size))
  clear b5
  go_wp2
  go_ret2
  exact ⟨rfl, B5.out⟩

end Go.Proofs.YtggfmnmopfdiaaaGreatDoor
namespace Go.Proofs.YtggfmnmopfdiaaaGreatDoor
open Go.RowKit Go.Pal

set_option maxHeartbeats 400000 in
theorem leaves_any (w : World) (a : Option Addr) (n cap : Nat) (hn : n ≤ maxLen) :
    Calls Tryz.prog 91 #[.slice a n cap] w fun e w' => e = .returned (.bool (mayB n)) ∧ w = w' := by
  unfold maxLen at hn
  by_cases h0 : n = 0
  · subst h0
    go_enter Tryz.func91, Tryz.ntmps91
    go_wp2
    go_ret
    exact ⟨rfl, rfl⟩
  by_cases h1 : n ≤ 16
  · have ha := and_may n (by omega)
    have hz : (n == 0) = false := by simpa using h0
    rw [hz, Bool.or_false] at ha
    have hp : 0 < n := by omega
    generalize mayB n = m at *
    clear hz
    go_enter Tryz.func91, Tryz.ntmps91
    go_wp2
    go_ret
    exact ⟨rfl, rfl⟩
  · have hm : mayB n = false := by
      cases h : mayB n
      · rfl
      · obtain ⟨H, h2, h3⟩ := may_pow n h
        have := pow_le16 H h2
        omega
    rw [hm]
    have hp : 0 < n := by omega
    have hp2 : 16 < n := by omega
    go_enter Tryz.func91, Tryz.ntmps91
    go_wp2
    go_ret
    exact ⟨rfl, rfl⟩


/-- How long a slice in a slot is. -/
def sliceLen : Value → Nat | .slice _ n _ => n | _ => 0

set_option maxHeartbeats 400000 in
theorem root_no (w : World) (a : Option Addr) (n cap : Nat) (hn : n ≤ maxLen) (h : mayB n = false) :
    Calls Tryz.prog 84 #[.slice a n cap] w fun e w' => e = .returned (.tuple #[.string ⟨#[]⟩, .bool false]) ∧ w = w' := by
  have HL := Lib.hid (leaves_any w a n cap hn)
  rw [h] at HL
  clear h
  go_enter Tryz.func84, Tryz.ntmps84
  go_wp2_with fail
  refine HL.out.mono ?_
  rintro e w1 ⟨rfl, rfl⟩
  go_wp2
  go_ret2
  exact ⟨rfl, rfl⟩

set_option maxHeartbeats 1000000 in
theorem root_yes (w : World) (a : Option Addr) (cap : Nat) (ss : List ByteArray) (H : Nat) (hH : H ≤ 4) (hlen : ss.length = 2 ^ H) (hss : StrRow w a ss) (hsm : SmallL ss) (ht : Tabs w) :
    Calls Tryz.prog 84 #[.slice a ss.length cap] w fun e w' => e = .returned (.tuple #[.string ((rowN H ss).getD 0 ByteArray.empty), .bool true]) ∧ Below w.heap.size w w' := by
  have h16 := pow_le16 H hH
  have HL := Lib.hid (leaves_any w a ss.length cap (by unfold maxLen; omega))
  rw [show mayB ss.length = true by rw [hlen]; exact pow_may H hH] at HL
  have HN := Lib.hid (fun k hk => rowN_pow ss H k hlen hk)
  have HSM := Lib.hid (smallL_n ss hsm)
  have HT := Lib.hid ht
  have HSS := Lib.hid hss
  clear hss hsm ht hlen h16
  go_enter Tryz.func84, Tryz.ntmps84
  go_wp2_with fail
  refine HL.out.mono ?_
  rintro e w1 ⟨rfl, rfl⟩
  clear HL
  go_wp2
  go_loopw [4] (fun v wr => ∃ k : Nat, ∃ a2 : Option Addr, ∃ c2 : Nat, k ≤ H ∧ v = .slice a2 (rowN k ss).length c2 ∧ StrRow wr a2 (rowN k ss) ∧ Below w.heap.size w wr) (fun v _ => sliceLen v)
  case atStart => exact ⟨0, a, cap, by omega, rfl, HSS.out, Below.refl _ _⟩
  case round =>
    clear HSS
    obtain ⟨k, a2, c2, hk, rfl, hrow, hb⟩ := hrel
    have hlk := HN.out k hk
    by_cases hlt : k < H
    · have h2 := pow_ge2 (H - k) (by omega)
      have h16 := pow_le16 (H - k) (by omega)
      have hl2 := rowUp_length (rowN k ss)
      have habove := above_any wr a2 c2 (rowN k ss) hrow (by omega) (HSM.out k) (HT.out.below hb)
      have hnx : rowN (k + 1) ss = rowUp (rowN k ss) := rfl
      generalize rowN k ss = R at *
      generalize hU : rowN (k + 1) ss = U at *
      rw [← hnx] at habove hl2
      have HU := Lib.hid hU
      have HA := Lib.hid habove
      have HB := Lib.hid hb
      have h1 : 1 < R.length := by omega
      have hUl : U.length < R.length := by omega
      have HUL := Lib.hid hUl
      clear hU habove hb hnx hrow hlk h2 h16 hl2 hUl
      go_wp2_with fail
      refine HA.out.mono ?_
      rintro e w2 ⟨rfl, r2, _, b2⟩
      have C2 := Lib.hid (HB.out.trans (b2.mono HB.out.size))
      have HR2 := Lib.hid r2
      clear b2 r2
      go_wp2
      go_roundw
      case rel => exact ⟨k + 1, _, _, by omega, by rw [HU.out], by rw [HU.out]; exact HR2.out, C2.out⟩
      case measure => simp only [sliceLen]; exact HUL.out
    · obtain rfl : k = H := by omega
      rw [Nat.sub_self] at hlk
      have hl1 : (rowN k ss).length = 1 := hlk
      rcases hrow with h0 | ⟨b, off, rfl, hbl, hc⟩
      · rw [h0] at hl1; simp at hl1
      have c0 := hc 0 (by omega)
      rw [Nat.add_zero] at c0
      have hsz := HSM.out k 0
      rw [hl1]
      generalize hX : (rowN k ss).getD 0 ByteArray.empty = X at *
      have HX := Lib.hid hX
      have HB := Lib.hid hb
      clear hb hc hl1 hlk hX
      go_wp2_with fail
      refine (clone_any X _ (by omega)).mono ?_
      rintro e w2 ⟨rfl, b2⟩
      have C2 := Lib.hid (HB.out.trans (b2.mono HB.out.size))
      clear b2
      go_wp2
      go_ret2
      rw [HX.out]
      exact ⟨rfl, C2.out⟩

end Go.Proofs.YtggfmnmopfdiaaaGreatDoor
namespace Go.Proofs.YtggfmnmopfdiaaaGreatDoor
open Go.RowKit Go.Pal

theorem strV_one (s : ByteArray) : ∀ u ∈ [strV s], u.oneCell' = true := by
  intro u hu
  obtain rfl : u = strV s := by simpa using hu
  rfl

set_option maxHeartbeats 400000 in
theorem path_no (w : World) (a : Option Addr) (n cap : Nat) (i : Int) (hn : n ≤ maxLen) (h : mayB n = false ∨ i < 0 ∨ (n : Int) ≤ i) :
    Calls Tryz.prog 57 #[.slice a n cap, .int .i64 i] w fun e w' => e = .returned (.tuple #[.slice none 0 0, .bool false]) ∧ w = w' := by
  have HL := Lib.hid (leaves_any w a n cap hn)
  have hcase : mayB n = false ∨ (mayB n = true ∧ i < 0) ∨ (mayB n = true ∧ 0 ≤ i ∧ (n : Int) ≤ i) := by
    cases hm : mayB n
    · exact .inl rfl
    · rw [hm] at h
      rcases h with h | h | h
      · cases h
      · exact .inr (.inl ⟨rfl, h⟩)
      · exact .inr (.inr ⟨rfl, by omega, h⟩)
  clear h
  rcases hcase with h | ⟨h, h1⟩ | ⟨h, h1, h2⟩
  all_goals
    rw [h] at HL
    clear h
    go_enter Tryz.func57, Tryz.ntmps57
    go_wp2_with fail
    refine HL.out.mono ?_
    rintro e w1 ⟨rfl, rfl⟩
    go_wp2
    go_ret2
    exact ⟨rfl, rfl⟩

set_option maxHeartbeats 1000000 in
set_option maxRecDepth 100000 in
theorem path_yes (w : World) (a : Option Addr) (cap : Nat) (ss : List ByteArray) (H i : Nat) (hH : H ≤ 4) (hlen : ss.length = 2 ^ H) (hi : i < 2 ^ H) (hss : StrRow w a ss) (hsm : SmallL ss) (ht : Tabs w) :
    Calls Tryz.prog 57 #[.slice a ss.length cap, .int .i64 i] w fun e w' => (∃ v, e = .returned (.tuple #[v, .bool true]) ∧ w'.ownsRow w.heap.size 9 1 v H ((pathTo ss i H).map strV)) ∧ Below w.heap.size w w' := by
  obtain ⟨i0, hi0, hz0, hz1, hz2⟩ := info_parts (show (Tryz.prog.info? 9).map (fun i => (i.zero, i.size, i.bytes)) = some (some (.string ⟨#[]⟩), 1, 16) by kernel_rfl)
  have h16 := pow_le16 H hH
  have HL := Lib.hid (leaves_any w a ss.length cap (by unfold maxLen; omega))
  rw [show mayB ss.length = true by rw [hlen]; exact pow_may H hH] at HL
  have HN := Lib.hid (fun k hk => rowN_pow ss H k hlen hk)
  have HSM := Lib.hid (smallL_n ss hsm)
  have HDIV := Lib.hid (fun k hk => div_lt_pow i H k hi hk)
  have HT := Lib.hid ht
  have HSS := Lib.hid hss
  have hi1 : i < ss.length := by omega
  have HM1 : Hid (i0.bytes * 4 ≤ 281474976710656) := Lib.hid (by rw [hz2]; omega)
  have HM2 : Hid (4 ≤ maxLen) := Lib.hid (by unfold maxLen; omega)
  have HI := Lib.hid hi0
  have HZ0 := Lib.hid hz0
  have HZ1 := Lib.hid hz1
  have HZ2 := Lib.hid hz2
  have hp0 : 0 < ss.length := by omega
  clear hss hsm ht hlen h16 hi0 hz0 hz1 hz2 hi
  go_enter Tryz.func57, Tryz.ntmps57
  go_wp2_with fail
  refine HL.out.mono ?_
  rintro e w1 ⟨rfl, rfl⟩
  clear HL
  go_wp2_with (at_make; refine wpList_make_own _ rfl _ _ 22 rfl w.heap.size 9 i0 (.string ⟨#[]⟩) 1 Tryz.underlying22 HI.out HZ0.out HZ1.out .i64 .i64 _ 4 rfl rfl rfl HM1.out HM2.out (Nat.le_refl _) ?_)
  intro w1 hown1 hg1
  have HO1 := Lib.hid hown1
  have b1 := ((Below.refl w.heap.size w).grown hg1 (Nat.le_refl _) (by intro k hk; cases hk))
  have HB1 := Lib.hid b1
  have HS1 := Lib.hid (HSS.out.below b1)
  obtain ⟨b, off, rfl, hbl⟩ : ∃ b off, a = some ⟨b, off, none⟩ ∧ b < w.heap.size := by
    rcases HSS.out with h0 | ⟨b, off, rfl, hbl, _⟩
    · rw [h0] at hp0; simp at hp0
    · exact ⟨b, off, rfl, hbl⟩
  have hne0 : w.heap.size ≠ b := by omega
  clear hown1 hg1 HM1 HM2 HSS b1 hi1
  go_wp2
  go_loopw [1, 6, 7] (fun vi v6 v7 wr => ∃ k b2 off2 c2 q : Nat, k ≤ H ∧ vi = .int .i64 q ∧ q = i / 2 ^ k ∧ v7 = .slice (some ⟨b2, off2, none⟩) (rowN k ss).length c2 ∧ StrRow wr (some ⟨b2, off2, none⟩) (rowN k ss) ∧ b2 < wr.heap.size ∧ v6.ownBlock ≠ some b2 ∧ wr.ownsRow w.heap.size 9 1 v6 k ((pathTo ss i k).map strV) ∧ Below w.heap.size w wr) (fun _ _ v7 _ => sliceLen v7)
  case atStart => exact ⟨0, b, off, cap, i, by omega, rfl, by simp, rfl, HS1.out, Nat.lt_of_lt_of_le hbl HB1.out.size, by simp [Value.ownBlock, hne0], HO1.out, HB1.out⟩
  case round =>
    clear HO1 HB1 HS1 hne0
    obtain ⟨k, b2, off2, c2, q, hk, rfl, hq, rfl, hrow, hb2, hne, hown, hb⟩ := hrel
    have hlk := HN.out k hk
    by_cases hlt : k < H
    · have h2 := pow_ge2 (H - k) (by omega)
      have h16 := pow_le16 (H - k) (by omega)
      have hdv := HDIV.out k hk
      rw [← hq] at hdv
      have hbs := beside_lt q (2 ^ (H - (k + 1))) (by have e : 2 ^ (H - k) = 2 * 2 ^ (H - (k + 1)) := by { rw [show H - k = (H - (k + 1)) + 1 by omega, Nat.pow_succ]; omega }; omega)
      have e2 : 2 ^ (H - k) = 2 * 2 ^ (H - (k + 1)) := by rw [show H - k = (H - (k + 1)) + 1 by omega, Nat.pow_succ]; omega
      have hx := xor_beside q (by omega)
      have hl2 := rowUp_length (rowN k ss)
      have hnx : rowN (k + 1) ss = rowUp (rowN k ss) := rfl
      have hpt := pathTo_succ ss i k
      rw [← hq] at hpt
      have hsm := HSM.out k
      have hqh : q / 2 = i / 2 ^ (k + 1) := by rw [half_step, ← hq]
      have hbl2 : beside q < (rowN k ss).length := by omega
      generalize rowN k ss = R at *
      generalize hU : rowN (k + 1) ss = U at *
      generalize hP : pathTo ss i k = Pk at *
      generalize hP2 : pathTo ss i (k + 1) = Pk2 at *
      generalize beside q = bq at *
      have c0 : wr.cell? ⟨b2, off2 + bq, none⟩ = some (.string (R.getD bq ByteArray.empty)) := by
        rcases hrow with h0 | ⟨bb, oo, he, _, hc⟩
        · rw [h0] at hbl2; simp at hbl2
        · cases he; exact hc bq hbl2
      have hxs := hsm bq
      generalize R.getD bq ByteArray.empty = X at *
      have HAB := Lib.hid (fun W (hr : StrRow W (some ⟨b2, off2, none⟩) R) hT => above_any W (some ⟨b2, off2, none⟩) c2 R hr (by omega) hsm hT)
      rw [← hnx] at HAB hl2
      have h1 : 1 < R.length := by omega
      have HUL : Hid (U.length < R.length) := Lib.hid (by omega)
      have HU := Lib.hid hU
      have HP2 := Lib.hid hP2
      have HPT := Lib.hid hpt
      have HQ := Lib.hid hqh
      have HR := Lib.hid hrow
      have HO := Lib.hid hown
      have HB := Lib.hid hb
      have HNE := Lib.hid hne
      have HB2 := Lib.hid hb2
      have hR16 : R.length ≤ 16 := by omega
      have hq16 : q < 16 := by omega
      have HC1 : Hid (k + 1 ≤ maxLen) := Lib.hid (by unfold maxLen; omega)
      have HC2 : Hid ((k + 1) * 16 ≤ 140737488355328) := Lib.hid (by omega)
      clear hU hP2 hpt hrow hown hb hnx hlk h2 h16 hl2 hdv hbs e2 hqh hsm hne hb2 hP hq
      go_wp2_with fail
      refine (clone_any X _ (by omega)).mono ?_
      rintro e w2 ⟨rfl, b3⟩
      have hO2 := HO.out.kept (Lib.grownBy_below (World.grownBy.refl wr none) b3) (by cases h : Value.ownBlock _ <;> simp)
      have C2 := Lib.hid (HB.out.trans (b3.mono HB.out.size))
      have HR2 := Lib.hid (HR.out.below b3)
      have HB3 : Hid (b2 < w2.heap.size) := Lib.hid (Nat.lt_of_lt_of_le HB2.out b3.size)
      have HO2 := Lib.hid hO2
      have HC3 : Hid (∀ o : Obj, w.heap.size ≤ (w2.alloc o).heap.size) := Lib.hid (fun o => by have := C2.out.size; simp; omega)
      clear b3 hO2 HO HB HR HB2 c0 hx
      go_wp2_with (at_builtin; refine wpList_append_lies _ rfl _ _ 22 rfl w.heap.size 9 i0 (.string ⟨#[]⟩) 1 16 Tryz.underlying22 HI.out HZ0.out HZ1.out HZ2.out rfl (by omega) _ k _ rfl (HO2.out.alloc _) ⟨w2.heap.size, 0, none⟩ 1 1 [strV X] rfl rfl (World.news_of_block (cs := #[strV X]) (t := 9) (fr := (0, 0)) (heap_alloc_new w2 _)) (strV_one X) (by omega) HC1.out HC2.out (HC3.out _) (w2.heap.size + 1) (by simp) ?_)
      intro g4 cap4 w4 hown4 hg4 hat4 hlt4
      have b4 := (C2.out.alloc C2.out.size _).grown hg4 (HC3.out _) (fun j hj => (HO2.out.lt j hj).1)
      have hr4 : StrRow w4 (some ⟨b2, off2, none⟩) R := by
        rcases HR2.out with h0 | ⟨bb, oo, he, hl, hc⟩
        · exact .inl h0
        · cases he
          refine .inr ⟨b2, off2, rfl, Nat.lt_of_lt_of_le hl (Nat.le_trans (by simp) hg4.size), fun j hj => ?_⟩
          rw [hg4.cell_far ⟨b2, off2 + j, none⟩ (by simp; omega) (fun e => HNE.out e.symm)]
          rw [World.cell?_of_block (heap_alloc_old w2 _ hl)]
          exact hc j hj
      have hne4 : (Value.slice (some ⟨g4, 0, none⟩) (k + 1) cap4).ownBlock ≠ some b2 := by
        rcases hat4 with h | h
        · rw [show (Value.slice (some ⟨g4, 0, none⟩) (k + 1) cap4).ownBlock = some g4 from rfl, ← h]; exact HNE.out
        · have := HB3.out
          simp only [Value.ownBlock, ne_eq, Option.some.injEq]; omega
      have HO4 := Lib.hid hown4
      have HB4 := Lib.hid b4
      have HR4 := Lib.hid hr4
      have HL4 := Lib.hid hlt4
      clear hown4 b4 hr4 hg4 hat4 hne4 hlt4 HO2 C2 HR2 HC1 HC2 HC3
      go_wp2_with fail
      refine (HAB.out _ HR4.out (HT.out.below HB4.out)).mono ?_
      rintro e w5 ⟨rfl, r5, hz5, b5⟩
      have C5 := Lib.hid (HB4.out.trans (b5.mono HB4.out.size))
      have HR5 := Lib.hid r5
      have HZ5 := Lib.hid hz5
      have HO5 := Lib.hid (HO4.out.kept (Lib.grownBy_below (World.grownBy.refl w4 none) b5) (by simp [Value.ownBlock]))
      have HN5 : Hid ((Value.slice (some ⟨g4, 0, none⟩) (k + 1) cap4).ownBlock ≠ some w4.heap.size) := Lib.hid (by have := HL4.out; simp only [Value.ownBlock, ne_eq, Option.some.injEq]; omega)
      clear r5 b5 hz5
      go_wp2
      go_roundw
      case rel =>
        refine ⟨k + 1, w4.heap.size, 0, _, q / 2, by omega, by go_num, HQ.out, by rw [HU.out], by rw [HU.out]; exact HR5.out, HZ5.out, HN5.out, ?_, C5.out⟩
        rw [HP2.out, HPT.out, List.map_append]
        exact HO5.out
      case measure => simp only [sliceLen]; exact HUL.out
    · obtain rfl : k = H := by omega
      rw [Nat.sub_self] at hlk
      have hl1 : (rowN k ss).length = 1 := hlk
      rw [hl1]
      have HB := Lib.hid hb
      have HO := Lib.hid hown
      clear hb hl1 hlk hown hrow hq
      go_wp2
      go_ret2
      exact ⟨⟨_, rfl, HO.out⟩, HB.out⟩


set_option maxHeartbeats 1000000 in
set_option maxRecDepth 100000 in
theorem fold_yes (w : World) (leaf : ByteArray) (i : Nat) (a : Option Addr) (cap : Nat) (ss : List ByteArray) (hn : ss.length ≤ 4) (hi : i < 2 ^ ss.length) (hlf : leaf.size ≤ 1000000) (hss : StrRow w a ss) (hsm : SmallL ss) (ht : Tabs w) :
    Calls Tryz.prog 74 #[.string leaf, .int .i64 i, .slice a ss.length cap] w fun e w' => e = .returned (.tuple #[.string (foldAt leaf i ss ss.length), .bool true]) ∧ Below w.heap.size w w' := by
  have HZ := Lib.hid (foldAt_size leaf i ss hlf)
  have hstep : ∀ k, foldAt leaf i ss (k + 1) = if i / 2 ^ k % 2 = 1 then pairB (ss.getD k ByteArray.empty) (foldAt leaf i ss k) else pairB (foldAt leaf i ss k) (ss.getD k ByteArray.empty) := fun k => rfl
  have HST := Lib.hid hstep
  have HSS := Lib.hid hss
  have HSM := Lib.hid hsm
  have HT := Lib.hid ht
  have h16 := pow_le16 ss.length hn
  have hpow : (1 : Int) * 2 ^ ss.length = ((2 ^ ss.length : Nat) : Int) := by rw [Int.one_mul, Int.natCast_pow]; rfl
  have H0 := Lib.hid (show foldAt leaf i ss 0 = leaf from rfl)
  obtain ⟨C, hC⟩ : ∃ C, C = foldAt leaf i ss := ⟨_, rfl⟩
  rw [← hC] at HZ HST H0 ⊢
  clear hstep hss hsm ht hC
  go_enter Tryz.func74, Tryz.ntmps74
  go_wp2_with fail
  refine (clone_any leaf _ (by omega)).mono ?_
  rintro e w2 ⟨rfl, b2⟩
  have HB2 := Lib.hid b2
  clear b2 hpow h16
  go_wp2
  go_loopw [1, 8, 30] (fun vi v8 vc wr => ∃ k q : Nat, k ≤ ss.length ∧ vi = .int .i64 q ∧ q = i / 2 ^ k ∧ q ≤ i ∧ v8 = .string (C k) ∧ vc = .int .i64 k ∧ Below w.heap.size w wr) (fun _ _ vc _ => ss.length - (intOf vc).toNat)
  case atStart => exact ⟨0, i, by omega, rfl, by simp, by omega, by rw [H0.out], rfl, HB2.out⟩
  case round =>
    clear HB2
    obtain ⟨k, q, hk, rfl, hq, hqi, rfl, rfl, hb⟩ := hrel
    by_cases hlt : k < ss.length
    · rcases HSS.out with h0 | ⟨b, off, rfl, hbl, hc⟩
      · rw [h0] at hlt; simp at hlt
      have c0 := (hb.cell (p := ⟨b, off + k, none⟩) hbl).trans (hc k hlt)
      have hst := HST.out k
      have hqh : q / 2 = i / 2 ^ (k + 1) := by rw [half_step, ← hq]
      rw [← hq] at hst
      have hz := HZ.out k
      have hps := HSM.out k
      generalize ss.getD k ByteArray.empty = p at *
      generalize C k = X at *
      generalize hX2 : C (k + 1) = X2 at *
      have HX2 := Lib.hid hX2
      have HB := Lib.hid hb
      have HQ := Lib.hid hqh
      have hi16 : q < 16 := by have := pow_le16 ss.length hn; omega
      clear hX2 hb hqh hc hq
      have HPA := Lib.hid (fun W x y hx hy hT => pair_any W x y hx hy hT)
      by_cases hpar : q % 2 = 1
      · rw [if_pos hpar] at hst
        have HSTEP := Lib.hid hst
        have hp : ((q : Int) % 2 == 1) = true := by simp; omega
        clear hst hpar
        go_wp2_with fail
        have c3 := HB.out.alloc HB.out.size (.cells #[.string p, .string X] 143)
        refine (HPA.out _ p X hps hz (HT.out.below c3)).mono ?_
        rintro e w4 ⟨rfl, b4⟩
        have C4 := Lib.hid (c3.trans (b4.mono c3.size))
        clear c3 b4
        rw [← HSTEP.out]
        go_wp2
        go_roundw
        case rel => exact ⟨k + 1, q / 2, by omega, by go_num, HQ.out, by omega, by rw [HX2.out], by go_num, C4.out⟩
        case measure => simp [intOf]; omega
      · rw [if_neg hpar] at hst
        have HSTEP := Lib.hid hst
        have hp : ((q : Int) % 2 == 1) = false := by simp; omega
        clear hst hpar
        go_wp2_with fail
        have c3 := HB.out.alloc HB.out.size (.cells #[.string X, .string p] 143)
        refine (HPA.out _ X p hz hps (HT.out.below c3)).mono ?_
        rintro e w4 ⟨rfl, b4⟩
        have C4 := Lib.hid (c3.trans (b4.mono c3.size))
        clear c3 b4
        rw [← HSTEP.out]
        go_wp2
        go_roundw
        case rel => exact ⟨k + 1, q / 2, by omega, by go_num, HQ.out, by omega, by rw [HX2.out], by go_num, C4.out⟩
        case measure => simp [intOf]; omega
    · obtain rfl : k = ss.length := by omega
      have HB := Lib.hid hb
      clear hb hq
      go_wp2
      go_ret2
      exact ⟨rfl, HB.out⟩

set_option maxHeartbeats 1000000 in
set_option maxRecDepth 100000 in
theorem fold_no (w : World) (leaf : ByteArray) (i : Int) (a : Option Addr) (n cap : Nat) (h : 4 < n ∨ i < 0 ∨ 2 ^ n ≤ i) (hn : n ≤ maxLen) :
    Calls Tryz.prog 74 #[.string leaf, .int .i64 i, .slice a n cap] w fun e w' => e = .returned (.tuple #[.string ⟨#[]⟩, .bool false]) ∧ w = w' := by
  unfold maxLen at hn
  have hcase : 4 < n ∨ (n ≤ 4 ∧ i < 0) ∨ (n ≤ 4 ∧ 0 ≤ i ∧ (2 : Int) ^ n ≤ i) := by
    rcases h with h | h | h
    · exact .inl h
    · by_cases h4 : 4 < n
      · exact .inl h4
      · exact .inr (.inl ⟨by omega, h⟩)
    · by_cases h4 : 4 < n
      · exact .inl h4
      · by_cases h5 : i < 0
        · exact .inr (.inl ⟨by omega, h5⟩)
        · exact .inr (.inr ⟨by omega, by omega, h⟩)
  clear h
  rcases hcase with h | ⟨h, h1⟩ | ⟨h, h1, h2⟩
  · go_enter Tryz.func74, Tryz.ntmps74
    go_wp2
    go_ret2
    exact ⟨rfl, rfl⟩
  · go_enter Tryz.func74, Tryz.ntmps74
    go_wp2
    go_ret2
    exact ⟨rfl, rfl⟩
  · have h5 : n = 0 ∨ n = 1 ∨ n = 2 ∨ n = 3 ∨ n = 4 := by omega
    rcases h5 with rfl | rfl | rfl | rfl | rfl
    all_goals
      simp at h2
      go_enter Tryz.func74, Tryz.ntmps74
      go_wp2
      go_ret2
      exact ⟨rfl, rfl⟩

end Go.Proofs.YtggfmnmopfdiaaaGreatDoor
