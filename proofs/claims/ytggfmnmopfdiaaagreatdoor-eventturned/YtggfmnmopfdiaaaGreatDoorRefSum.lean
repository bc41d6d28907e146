/-
  Contract of the document's digest: palaverref02.Sum.
-/
import Derived.Test.YtggfmnmopfdiaaaGreatDoorPad1
import Derived.Test.YtggfmnmopfdiaaaGreatDoorRef2
import Derived.Deep.RegionHeld3
import Derived.Deep.AppendLies
namespace Go.Pal
open Go.RowKit
/-- Four bytes, added up. -/
theorem word4_add (a b c d : UInt8) : ((a.toNat : Int) % 4294967296 * 16777216 + (b.toNat : Int) % 4294967296 * 65536 + (c.toNat : Int) % 4294967296 * 256 + (d.toNat : Int)) % 4294967296 = u (word4 a b c d) := by
  have ha := a.toNat_lt
  have hb := b.toNat_lt
  have hc := c.toNat_lt
  have hd := d.toNat_lt
  rw [u_word4]
  omega
theorem bs_get (P : List UInt8) (A i : Nat) (hi : i < 64) (h : A + i < P.length) : ((P.drop A).take 64).getD i 0 = P[A + i] := by
  rw [List.getD_eq_getElem?_getD, List.getElem?_take, if_pos hi, List.getElem?_drop, List.getElem?_eq_getElem h]
  rfl
theorem raw_out (x : UInt32) : [Value.int .u8 (IntKind.u8.wrap (u x / 16777216)), Value.int .u8 (IntKind.u8.wrap (u x / 65536)), Value.int .u8 (IntKind.u8.wrap (u x / 256)), Value.int .u8 (IntKind.u8.wrap (u x))] = [byteV (byteAt x 24), byteV (byteAt x 16), byteV (byteAt x 8), byteV (byteAt x 0)] := by
  have e0 := byteAt24 x
  have e1 := byteAt16 x
  have e2 := byteAt8 x
  have e3 := byteAt0 x
  have h := (byteAt x 24).toNat_lt
  rw [IntKind.wrap_u8, IntKind.wrap_u8, IntKind.wrap_u8, IntKind.wrap_u8, e1, e2, e3, e0]
  unfold byteV
  rw [show ((byteAt x 24).toNat : Int) % 256 = ((byteAt x 24).toNat : Int) by omega]
theorem take_out (s : St) (k : Nat) (hk : k < 8) : ((outS s).take (4 * (k + 1))).map byteV = ((outS s).take (4 * k)).map byteV ++ [byteV (byteAt (s.list.getD k 0) 24), byteV (byteAt (s.list.getD k 0) 16), byteV (byteAt (s.list.getD k 0) 8), byteV (byteAt (s.list.getD k 0) 0)] := by
  have h8 : k = 0 ∨ k = 1 ∨ k = 2 ∨ k = 3 ∨ k = 4 ∨ k = 5 ∨ k = 6 ∨ k = 7 := by omega
  rcases h8 with rfl | rfl | rfl | rfl | rfl | rfl | rfl | rfl <;> rfl
end Go.Pal
namespace Go.Proofs.YtggfmnmopfdiaaaGreatDoor
open Go.RowKit Go.Pal

theorem turn_same (n : Int) (x : UInt32) (w : World) (h : n = 2 ∨ n = 13 ∨ n = 22 ∨ n = 6 ∨ n = 11 ∨ n = 25 ∨ n = 7 ∨ n = 18 ∨ n = 17 ∨ n = 19) :
    Calls Tryz.prog 99 #[.int .u32 (u x), .int .u32 n] w fun e w' => e = .returned (.int .u32 (u (rotr n.toNat x))) ∧ w' = w := by
  rcases h with rfl | rfl | rfl | rfl | rfl | rfl | rfl | rfl | rfl | rfl
  · exact (turn2 x w).mono fun _ _ ⟨a, b⟩ => ⟨a, b.symm⟩
  · exact (turn13 x w).mono fun _ _ ⟨a, b⟩ => ⟨a, b.symm⟩
  · exact (turn22 x w).mono fun _ _ ⟨a, b⟩ => ⟨a, b.symm⟩
  · exact (turn6 x w).mono fun _ _ ⟨a, b⟩ => ⟨a, b.symm⟩
  · exact (turn11 x w).mono fun _ _ ⟨a, b⟩ => ⟨a, b.symm⟩
  · exact (turn25 x w).mono fun _ _ ⟨a, b⟩ => ⟨a, b.symm⟩
  · exact (turn7 x w).mono fun _ _ ⟨a, b⟩ => ⟨a, b.symm⟩
  · exact (turn18 x w).mono fun _ _ ⟨a, b⟩ => ⟨a, b.symm⟩
  · exact (turn17 x w).mono fun _ _ ⟨a, b⟩ => ⟨a, b.symm⟩
  · exact (turn19 x w).mono fun _ _ ⟨a, b⟩ => ⟨a, b.symm⟩

theorem turn_to (n : Int) (x : UInt32) (w : World) (h : n = 2 ∨ n = 13 ∨ n = 22 ∨ n = 6 ∨ n = 11 ∨ n = 25 ∨ n = 7 ∨ n = 18 ∨ n = 17 ∨ n = 19) :
    Calls Tryz.prog 99 #[.int .u32 (u x), .int .u32 n] w fun e w' => e = .returned (.int .u32 (u (rotr n.toNat x))) ∧ w = w' := (turn_same n x w h).mono fun _ _ ⟨a, b⟩ => ⟨a, b.symm⟩
/-- A quiet callee in a world that has drawn before. -/
theorem quiet_same2 {P : Program} {f : FuncId} {args : Array Value} {w : World} {q n : Nat} {v : Value}
    (h : Calls P f args (w.drewN (q + n)) fun e w' => e = .returned v ∧ w' = w.drewN (q + n)) : Calls P f args (w.drewN (q + n)) fun e w'' => e = .returned v ∧ ∃ m, w'' = w.drewN (q + m) :=
  h.mono fun _ _ ⟨he, hm⟩ => ⟨he, n, hm⟩

set_option maxHeartbeats 8000000 in
set_option maxRecDepth 100000 in
theorem refsum_any (w : World) (s : ByteArray) (hs : s.size ≤ 10000000) :
    Calls Tryz.prog 65 #[.string s] w fun e w' => e = .returned (.string (shaB s)) ∧ Below w.heap.size w w' := by
  have hi : (Tryz.prog.info? 134).map (·.size) = some ((Ht.map wordV).toArray.size) := by kernel_rfl
  have ho : (Ht.map wordV).toArray.all (·.oneCell') = true := by simp [wordV, Value.oneCell']
  have hi2 : (Tryz.prog.info? 136).map (·.size) = some ((Kt.map wordV).toArray.size) := by kernel_rfl
  have ho2 : (Kt.map wordV).toArray.all (·.oneCell') = true := by kernel_rfl
  have hl2 : 64 = (Kt.map wordV).toArray.size := by kernel_rfl
  have HI := Lib.hid hi
  have HO := Lib.hid ho
  have HI2 := Lib.hid hi2
  have HO2 := Lib.hid ho2
  have HL2 := Lib.hid hl2
  have HPAD := Lib.hid (fun W => padded_any W s hs)
  have hPl := padL_length s.data.toList
  have hfin : shaB s = ⟨(outS (absorb H0 (padL s.data.toList) ((padL s.data.toList).length / 64))).toArray⟩ := by rw [shaB, shaL_pad]
  have HFIN := Lib.hid hfin
  have hPb : (padL s.data.toList).length ≤ 10000200 := by
    rw [hPl]
    have : s.data.toList.length = s.size := by simp
    split <;> omega
  obtain ⟨m, hm⟩ : ∃ m, (padL s.data.toList).length = 64 * m := ⟨_, hPl⟩
  have hmb : 64 * m ≤ 10000200 := by omega
  clear hi ho hi2 ho2 hl2 hfin hPl hs
  generalize padL s.data.toList = P at *
  go_enter Tryz.func65, Tryz.ntmps65
  go_wp2_with fail
  refine (starts_any _).mono ?_
  rintro e w1 ⟨rfl, b1⟩
  go_wp2_with (refine wpList_store_made rfl 134 _ _ rfl _ (Ht.map wordV).toArray 134 rfl rfl HI.out rfl HO.out ?_)
  have b2 := b1.alloc b1.size (.cells (Ht.map wordV).toArray 134)
  have k2 := Blk.new w1 134 (Ht.map wordV)
  have z2 : w1.heap.size < (w1.alloc (.cells (Ht.map wordV).toArray 134)).heap.size := by simp
  have hH := b1.size
  generalize w1.alloc (.cells (Ht.map wordV).toArray 134) = w2 at *
  generalize w1.heap.size = H at *
  clear HI HO b1
  refine (table_any _).mono ?_
  rintro e w3 ⟨rfl, b3⟩
  have c3 := b2.trans (b3.mono b2.size)
  have k3 := k2.below b3 z2
  clear b2 k2
  go_wp2_with (refine wpList_store_made rfl 136 _ _ rfl _ (Kt.map wordV).toArray 136 rfl rfl HI2.out HL2.out HO2.out ?_)
  have b4 := c3.alloc c3.size (.cells (Kt.map wordV).toArray 136)
  have k4 := k3.alloc (.cells (Kt.map wordV).toArray 136)
  have q4 := Blk.new w3 136 (Kt.map wordV)
  have z4 : w3.heap.size < (w3.alloc (.cells (Kt.map wordV).toArray 136)).heap.size := by simp
  have hK : H < w3.heap.size := Nat.lt_of_lt_of_le z2 b3.size
  generalize w3.alloc (.cells (Kt.map wordV).toArray 136) = w4 at *
  generalize w3.heap.size = K at *
  clear HI2 HO2 HL2 c3 k3 b3 z2
  refine (HPAD.out _).mono ?_
  rintro e w5 ⟨rfl, b5⟩
  have c5 := b4.trans (b5.mono b4.size)
  have k5 := k4.below b5 (by omega)
  have q5 := q4.below b5 z4
  clear b4 k4 q4 z4 b5 HPAD
  have hps : (⟨P.toArray⟩ : ByteArray).size = 64 * m := by show P.toArray.size = _; rw [List.size_toArray, hm]
  have HPS := Lib.hid hps
  clear hps
  have HK5 := Lib.hid k5
  have HQ5 := Lib.hid q5
  have HC5 := Lib.hid c5
  clear k5 q5 c5
  go_wp2
  go_loopw [6] (fun v wr => ∃ A j : Nat, v = .int .i64 (A : Int) ∧ A = 64 * j ∧ j ≤ m ∧ Blk wr H 134 (absorb H0 P j).vals ∧ Blk wr K 136 (Kt.map wordV) ∧ Below w.heap.size w wr) (fun v _ => 64 * m - (intOf v).toNat)
  case atStart => exact ⟨0, 0, rfl, rfl, by omega, HK5.out, HQ5.out, HC5.out⟩
  case round =>
    clear HK5 HQ5 HC5
    obtain ⟨A, j, rfl, hA, hj, hBH, hBK, hb⟩ := hrel
    by_cases hlt : j < m
    · have hA1 : A + 64 ≤ 64 * m := by omega
      have hnext : absorb H0 P (j + 1) = mixS (absorb H0 P j) ((P.drop A).take 64) := by rw [hA]; rfl
      have hbs : ((P.drop A).take 64).length = 64 := by rw [List.length_take, List.length_drop, hm]; omega
      have hbytes : ∀ i, i < 64 → ∀ h : A + i < (⟨P.toArray⟩ : ByteArray).size, ((P.drop A).take 64).getD i 0 = (⟨P.toArray⟩ : ByteArray)[A + i] := by
        intro i hi h
        have hps := HPS.out
        exact bs_get P A i hi (by rw [hm]; omega)
      generalize absorb H0 P j = S at *
      generalize (P.drop A).take 64 = bs at *
      generalize hS2 : absorb H0 P (j + 1) = S2 at *
      have HS2 := Lib.hid hS2
      clear hS2
      generalize (⟨P.toArray⟩ : ByteArray) = pb at *
      have HN := Lib.hid hnext
      have HBY := Lib.hid hbytes
      have HA := Lib.hid hA
      have HBK := Lib.hid hBK
      have HBH := Lib.hid hBH
      have HB := Lib.hid hb
      have hszr := hBK.lt
      clear hnext hbytes hA hBK hBH hb
      have hps := HPS.out
      have hd : A < pb.size := by omega
      clear hps
      go_wp2
      clear hd
      have hKW := hszr
      generalize hWn : wr.heap.size = Wn at hKW ⊢
      have HWN := Lib.hid hWn
      clear hWn hszr
      go_loopw [8] (fun v wq => ∃ k : Nat, k ≤ 64 ∧ v = .int .i64 k ∧ Blk wq Wn 136 (fill ((schedW bs).map wordV) 64 (.int .u32 0) k) ∧ Blk wq H 134 S.vals ∧ Blk wq K 136 (Kt.map wordV) ∧ Below w.heap.size w wq) (fun v _ => 64 - (intOf v).toNat)
      case atStart =>
        refine ⟨0, by omega, rfl, ?_, HBH.out.alloc _, HBK.out.alloc _, HB.out.alloc HB.out.size _⟩
        show Blk _ _ _ (List.replicate 64 (.int .u32 0))
        exact Blk.new' _ _ _ HWN.out.symm
      case round =>
        clear HBK HBH HB HWN
        obtain ⟨k, hk, rfl, h1, hBH, hBK, hb⟩ := hrel
        have HBK := Lib.hid hBK
        have HBH := Lib.hid hBH
        have HB := Lib.hid hb
        have hS := schedW_length bs
        clear hBK hBH hb
        by_cases hlt16 : k < 16
        · as_aux_lemma =>
          --<one
          have hps := HPS.out
          have hq0 : A + 4 * k < pb.size := by omega
          have hq1 : A + 4 * k + 1 < pb.size := by omega
          have hq2 : A + 4 * k + 2 < pb.size := by omega
          have hq3 : A + 4 * k + 3 < pb.size := by omega
          have e0 : bs.getD (4 * k) 0 = pb[A + 4 * k] := HBY.out (4 * k) (by omega) hq0
          have e1 : bs.getD (4 * k + 1) 0 = pb[A + 4 * k + 1] := HBY.out (4 * k + 1) (by omega) hq1
          have e2 : bs.getD (4 * k + 2) 0 = pb[A + 4 * k + 2] := HBY.out (4 * k + 2) (by omega) hq2
          have e3 : bs.getD (4 * k + 3) 0 = pb[A + 4 * k + 3] := HBY.out (4 * k + 3) (by omega) hq3
          have f1 := h1.frozen k
          have d1 := (h1.cell k).trans (fill_get _ _ _ _ (by simp; omega) (by omega))
          have hw := sched_cell16 bs k hlt16
          have hset := h1.set k (((schedW bs).map wordV)[k]'(by simp; omega))
          rw [fill_set _ _ _ _ (by simp; omega) (by omega), hw, e0, e1, e2, e3, ← word4_add] at hset
          have H0' := Lib.hid hset
          have hA2 : A ≤ 10000200 := by omega
          have n0 : (0 : Int) ≤ (A : Int) + 4 * (k : Int) := by omega
          have n1 : (0 : Int) ≤ (A : Int) + 4 * (k : Int) + 1 := by omega
          have n2 : (0 : Int) ≤ (A : Int) + 4 * (k : Int) + 2 := by omega
          have n3 : (0 : Int) ≤ (A : Int) + 4 * (k : Int) + 3 := by omega
          have l0 : (A : Int) + 4 * (k : Int) < (pb.size : Int) := by omega
          have l1 : (A : Int) + 4 * (k : Int) + 1 < (pb.size : Int) := by omega
          have l2 : (A : Int) + 4 * (k : Int) + 2 < (pb.size : Int) := by omega
          have l3 : (A : Int) + 4 * (k : Int) + 3 < (pb.size : Int) := by omega
          have H1 := Lib.hid (fun v => HBH.out.other (p := ⟨Wn, k, none⟩) (by simp; omega) v)
          have H2 := Lib.hid (fun v => HBK.out.other (p := ⟨Wn, k, none⟩) (by simp; omega) v)
          have H3 := Lib.hid (fun v => HB.out.setCell (p := ⟨Wn, k, none⟩) (by simp; omega) v)
          clear hset hw e0 e1 e2 e3 HN HBY HA h1 hS hm hbs HFIN hps HBH HBK HB
          go_wp2
          go_region
          go_wp2
          go_roundw
          case rel => exact ⟨k + 1, by omega, by go_num, H0'.out.drew, (H1.out _).drew, (H2.out _).drew, (H3.out _).drew⟩
          case measure => simp [intOf]; omega
          -->one
        by_cases hlt64 : k < 64
        · as_aux_lemma =>
          --<two
          have c0 := (h1.cell (k - 16)).trans ((fill_old _ _ _ _ _ (by omega) (by simp; omega)).trans (words_get? _ _ (by omega)))
          have c1 := (h1.cell (k - 15)).trans ((fill_old _ _ _ _ _ (by omega) (by simp; omega)).trans (words_get? _ _ (by omega)))
          have c2 := (h1.cell (k - 7)).trans ((fill_old _ _ _ _ _ (by omega) (by simp; omega)).trans (words_get? _ _ (by omega)))
          have c3 := (h1.cell (k - 2)).trans ((fill_old _ _ _ _ _ (by omega) (by simp; omega)).trans (words_get? _ _ (by omega)))
          have hw := sched_cell bs k (by omega) hlt64
          have hset := h1.set k (((schedW bs).map wordV)[k]'(by simp; omega))
          rw [fill_set _ _ _ _ (by simp; omega) (by omega), hw] at hset
          have H0' := Lib.hid hset
          clear hset hw
          have H1 := Lib.hid (fun v => HBH.out.other (p := ⟨Wn, k, none⟩) (by simp; omega) v)
          have H2 := Lib.hid (fun v => HBK.out.other (p := ⟨Wn, k, none⟩) (by simp; omega) v)
          have H3 := Lib.hid (fun v => HB.out.setCell (p := ⟨Wn, k, none⟩) (by simp; omega) v)
          unfold smallL smallH at H0'
          generalize (schedW bs).getD (k - 16) 0 = x0 at *
          generalize (schedW bs).getD (k - 15) 0 = x1 at *
          generalize (schedW bs).getD (k - 7) 0 = x2 at *
          generalize (schedW bs).getD (k - 2) 0 = x3 at *
          have f1 := h1.frozen k
          have d1 := (h1.cell k).trans (fill_get _ _ _ _ (by simp; omega) (by omega))
          have ux := u_xor
          have ua := u_add
          have s3 := shr3
          have s10 := shr10
          have p1 := u_nonneg x1
          have p3 := u_nonneg x3
          have h16 : 16 ≤ k := by omega
          have g1 : (0 : Int) ≤ (k : Int) - 2 := by omega
          have g2 : (k : Int) - 2 < 64 := by omega
          have g3 : (0 : Int) ≤ (k : Int) - 15 := by omega
          have g4 : (k : Int) - 15 < 64 := by omega
          have g5 : ((k : Int) - 2).toNat = k - 2 := by omega
          have g6 : ((k : Int) - 15).toNat = k - 15 := by omega
          have g9 : (2 : Int) ≤ (k : Int) := by omega
          have g10 : (15 : Int) ≤ (k : Int) := by omega
          have g11 : (16 : Int) ≤ (k : Int) := by omega
          have g12 : (7 : Int) ≤ (k : Int) := by omega
          have g7 : IntKind.i64.wrap ((k : Int) - 2) = (k : Int) - 2 := by rw [IntKind.wrap_i64]; omega
          have g8 : IntKind.i64.wrap ((k : Int) - 15) = (k : Int) - 15 := by rw [IntKind.wrap_i64]; omega
          clear HN HBY HA h1 hS hm hbs HFIN HPS HBH HBK HB hlt16 hPb hmb hA1
          go_wp2
          go_quiet ((go_at_call 99; exact Calls.quiet_of_same (turn_same _ _ _ (by decide))))
          go_wp2
          go_quiet ((go_at_call 99; exact quiet_same2 (turn_same _ _ _ (by decide))))
          go_wp2
          go_region
          go_wp2
          go_roundw
          case rel => exact ⟨k + 1, by omega, by go_num, H0'.out, H1.out _, H2.out _, (below_drewN (H3.out _) _).drew⟩
          case measure => simp [intOf]; omega
          -->two
        obtain rfl : k = 64 := by omega
        have hfull : fill ((schedW bs).map wordV) 64 (.int .u32 0) 64 = (schedW bs).map wordV := by
          have := fill_all ((schedW bs).map wordV) (.int .u32 0)
          rwa [List.length_map, hS] at this
        rw [hfull] at h1
        have hKc : ∀ i, i < 64 → wr.cell? ⟨K, i, none⟩ = some (.int .u32 (u (Kt.getD i 0))) := fun i hi => (HBK.out.cell i).trans (words_get? Kt i (by rw [show Kt.length = 64 from rfl]; exact hi))
        have hWc : ∀ i, i < 64 → wr.cell? ⟨Wn, i, none⟩ = some (.int .u32 (u ((schedW bs).getD i 0))) := fun i hi => (h1.cell i).trans (words_get? _ i (by rw [hS]; exact hi))
        have hmix := mixS_vals S bs
        rw [← HN.out] at hmix
        generalize schedW bs = W at *
        have HMIX := Lib.hid hmix
        have HKC := Lib.hid hKc
        have HWC := Lib.hid hWc
        have HO8 := Lib.hid (show S.vals.length = 8 from rfl)
        clear hfull hlt16 hlt64 hk h1 hS hKc hWc hmix HN HBY hm hbs hPb
        have c0 := HBH.out.cell 0
        have c1 := HBH.out.cell 1
        have c2 := HBH.out.cell 2
        have c3 := HBH.out.cell 3
        have c4 := HBH.out.cell 4
        have c5 := HBH.out.cell 5
        have c6 := HBH.out.cell 6
        have c7 := HBH.out.cell 7
        obtain ⟨a, b, c, d, e, f, g, h⟩ := S
        simp only [St.vals, St.list, List.map_cons, List.map_nil, wordV, List.getElem?_cons_zero, List.getElem?_cons_succ] at c0 c1 c2 c3 c4 c5 c6 c7
        rw [show ((64 : Nat) : Int) = 64 from rfl]
        go_wp2
        go_quiet (fail)
        go_wp2
        have hst : ∀ k, (roundsS W ⟨a, b, c, d, e, f, g, h⟩ (k + 1)) = stepS (Kt.getD k 0) (W.getD k 0) (roundsS W ⟨a, b, c, d, e, f, g, h⟩ k) := fun k => rfl
        simp only [stepS, totalS, addedS, highS, lowS] at hst
        have HST := Lib.hid hst
        clear hst c0 c1 c2 c3 c4 c5 c6 c7
        go_loopw [11, 12, 13, 14, 15, 16, 17, 18, 19] (fun va vb vc vd ve vf vg vh i wq => ∃ k : Nat, k ≤ 64 ∧ i = .int .i64 k ∧ va = .int .u32 (u (roundsS W ⟨a, b, c, d, e, f, g, h⟩ k).a) ∧ vb = .int .u32 (u (roundsS W ⟨a, b, c, d, e, f, g, h⟩ k).b) ∧ vc = .int .u32 (u (roundsS W ⟨a, b, c, d, e, f, g, h⟩ k).c) ∧ vd = .int .u32 (u (roundsS W ⟨a, b, c, d, e, f, g, h⟩ k).d) ∧ ve = .int .u32 (u (roundsS W ⟨a, b, c, d, e, f, g, h⟩ k).e) ∧ vf = .int .u32 (u (roundsS W ⟨a, b, c, d, e, f, g, h⟩ k).f) ∧ vg = .int .u32 (u (roundsS W ⟨a, b, c, d, e, f, g, h⟩ k).g) ∧ vh = .int .u32 (u (roundsS W ⟨a, b, c, d, e, f, g, h⟩ k).h) ∧ Same wr wq) (fun _ _ _ _ _ _ _ _ i _ => 64 - (intOf i).toNat)
        case atStart => exact ⟨0, by omega, rfl, rfl, rfl, rfl, rfl, rfl, rfl, rfl, rfl, (Same.refl _).drewN nq⟩
        case round =>
          obtain ⟨k, hk, rfl, rfl, rfl, rfl, rfl, rfl, rfl, rfl, rfl, hsame⟩ := hrel
          by_cases hlt : k < 64
          · as_aux_lemma =>
              --<three
              have d0 := (hsame.cell _).trans (HKC.out k hlt)
              have d1 := (hsame.cell _).trans (HWC.out k hlt)
              have hst := HST.out k
              have HSAME := Lib.hid hsame
              clear hsame HKC HWC HBH HBK HB HMIX HO8 hmb hA1 HPS HFIN
              generalize roundsS W ⟨a, b, c, d, e, f, g, h⟩ k = R at *
              have HSTEP := Lib.hid hst
              clear hst
              generalize R.a = a at *
              generalize R.b = b at *
              generalize R.c = c at *
              generalize R.d = d at *
              generalize R.e = e at *
              generalize R.f = f at *
              generalize R.g = g at *
              generalize R.h = h at *
              generalize Kt.getD k 0 = kk at *
              generalize W.getD k 0 = ww at *
              have ux := u_xor
              have uand := u_and
              have uadd := u_add
              have unot := u_notx
              clear HST
              go_wp2_with (go_at_call 99; refine (turn_to _ _ _ (by decide)).mono ?_; rintro e w1 ⟨rfl, rfl⟩)
              go_quiet (fail)
              go_wp2_with (go_at_call 99; refine (turn_to _ _ _ (by decide)).mono ?_; rintro e w1 ⟨rfl, rfl⟩)
              go_roundw
              case rel =>
                refine ⟨k + 1, by omega, by go_num, ?_, ?_, ?_, ?_, ?_, ?_, ?_, ?_, ?_⟩
                · rw [HSTEP.out, UInt32.add_assoc (_ + _ + _ + _ + _), u_add]
                · rw [HSTEP.out]
                · rw [HSTEP.out]
                · rw [HSTEP.out]
                · rw [HSTEP.out, u_add]
                · rw [HSTEP.out]
                · rw [HSTEP.out]
                · rw [HSTEP.out]
                · exact HSAME.out.drewN _
              case measure => simp [intOf]; omega
              -->three
          obtain rfl : k = 64 := by omega
          have HBH2 := Lib.hid (hsame.blk HBH.out)
          have HBK2 := Lib.hid (hsame.blk HBK.out)
          have HB2 := Lib.hid (HB.out.trans (hsame.below _))
          generalize roundsS W ⟨a, b, c, d, e, f, g, h⟩ 64 = R at *
          have hcell := fun (k : Nat) (hk : k < 8) => cell8 ⟨a, b, c, d, e, f, g, h⟩ R k hk
          have hcellR := fun (k : Nat) (hk : k < 8) => (cell8 R R k hk).1
          have hnew := addS_len ⟨a, b, c, d, e, f, g, h⟩ R
          generalize hO : St.vals ⟨a, b, c, d, e, f, g, h⟩ = O at *
          have hO8 : O.length = 8 := by rw [← hO]; rfl
          generalize (addS ⟨a, b, c, d, e, f, g, h⟩ R).vals = NW at *
          clear hsame hlt hk HBH HBK HB HKC HWC HST HO8 hO
          have HC := Lib.hid hcell
          have HCR := Lib.hid hcellR
          clear hcell hcellR
          rw [show ((64 : Nat) : Int) = 64 from rfl]
          go_wp2
          generalize hVn : wr.heap.size = Vn at ⊢
          have hKV : K < Vn := by rw [← hVn]; exact HBK2.out.lt
          have HV := Lib.hid hVn
          clear hVn
          go_loopw [27] (fun i wz => ∃ k : Nat, k ≤ 8 ∧ i = .int .i64 k ∧ Blk wz H 134 (partL NW O k) ∧ Blk wz Vn 134 R.vals ∧ Blk wz K 136 (Kt.map wordV) ∧ Below w.heap.size w wz) (fun i _ => 8 - (intOf i).toNat)
          case atStart => exact ⟨0, by omega, rfl, by rw [partL_zero]; exact HBH2.out.alloc _, Blk.new' _ _ R.vals HV.out.symm, HBK2.out.alloc _, HB2.out.alloc HB2.out.size _⟩
          case round =>
            clear HBH2 HBK2 HB2 HV
            obtain ⟨k, hk, rfl, hB, hV, hKK, hG⟩ := hrel
            by_cases hlt : k < 8
            · as_aux_lemma =>
                --<four
                have kc := (hB.cell k).trans ((partL_get NW O k (by omega)).trans (HC.out k hlt).1)
                have kv := (hV.cell k).trans (HCR.out k hlt)
                have kf := hB.frozen k
                have uadd := u_add
                have hset := hB.set k (NW[k]'(by omega))
                rw [partL_set NW O k (by omega) (by omega), (List.getElem_eq_iff _).2 (HC.out k hlt).2] at hset
                have HSET := Lib.hid hset
                have H1 := Lib.hid (fun v => hV.other (p := ⟨H, k, none⟩) (by simp; omega) v)
                have H2 := Lib.hid (fun v => hKK.other (p := ⟨H, k, none⟩) (by simp; omega) v)
                have H3 := Lib.hid (fun v => hG.setCell (p := ⟨H, k, none⟩) (by simp; omega) v)
                generalize (St.list ⟨a, b, c, d, e, f, g, h⟩).getD k 0 = x at *
                generalize R.list.getD k 0 = y at *
                clear hset HC HCR hB hV hKK hG HMIX HFIN hnew hO8 HPS hmb hA1
                go_wp2
                go_region
                go_wp2
                go_roundw
                case rel => exact ⟨k + 1, by omega, by go_num, HSET.out, H1.out _, H2.out _, (H3.out _).drew⟩
                case measure => simp [intOf]; omega
                -->four
            · as_aux_lemma =>
                --<five
                obtain rfl : k = 8 := by omega
                have hall := partL_all NW O (by omega)
                rw [hnew] at hall
                rw [hall, ← HMIX.out] at hB
                have HBB := Lib.hid hB
                have HKK := Lib.hid hKK
                have HGG := Lib.hid hG
                clear hB hKK hG hall HC HCR hnew hO8 hV HMIX HFIN
                go_wp2
                go_roundw
                case rel => exact ⟨A + 64, j + 1, by go_num, by have := HA.out; omega, by omega, by rw [HS2.out]; exact HBB.out, HKK.out, HGG.out⟩
                case measure => simp [intOf]; omega
                -->five
    · as_aux_lemma =>
        --<six
        obtain rfl : j = m := by omega
        have hps := HPS.out
        have hd : ¬ A < (⟨P.toArray⟩ : ByteArray).size := by rw [hps]; omega
        have hfin := HFIN.out
        rw [hm, Nat.mul_div_cancel_left _ (by omega)] at hfin
        have hlen := outS_length (absorb H0 P j)
        have hout := out_cells (absorb H0 P j)
        have hcell := fun (k : Nat) (hk : k < 8) => (cell8 (absorb H0 P j) (absorb H0 P j) k hk).1
        generalize hS : absorb H0 P j = S at *
        have hKlt := hBK.lt
        have HBH := Lib.hid hBH
        have HB := Lib.hid hb
        have HF := Lib.hid hfin
        obtain ⟨i0, hi, hz0, hz1, hz2⟩ := info_parts (show (Tryz.prog.info? 5).map (fun i => (i.zero, i.size, i.bytes)) = some (some (.int .u8 0), 1, 1) by kernel_rfl)
        clear hBH hBK hb hfin hS HFIN hA hm hmb hPb hps HPS
        generalize (⟨P.toArray⟩ : ByteArray) = pb at *
        go_wp2
        go_loopw [28, 29] (fun v i wq => ∃ k : Nat, k ≤ 8 ∧ i = .int .i64 k ∧ wq.ownsRow (K + 1) 5 1 v (4 * k) (((outS S).take (4 * k)).map byteV) ∧ Blk wq H 134 S.vals ∧ K < wq.heap.size ∧ Below w.heap.size w wq) (fun _ i _ => 8 - (intOf i).toNat)
        case atStart => exact ⟨0, by omega, rfl, World.ownsRow_nil _ _ _ _, HBH.out, hKlt, HB.out⟩
        case round =>
          clear HBH HB hKlt
          obtain ⟨k, hk, rfl, hown, hBH, hKlt, hb⟩ := hrel
          by_cases hlt : k < 8
          · have hst := take_out S k hlt
            have c0 := (hBH.cell k).trans (hcell k hlt)
            have hlt2 := hBH.lt
            have hne : u28.ownBlock ≠ some H := fun e => by have := (hown.lt H e).1; omega
            generalize S.list.getD k 0 = x at *
            have hi0 : (0 : Int) ≤ (k : Int) := by omega
            have hi1 : (k : Int) < 8 := by omega
            have p0 := u_nonneg x
            have p1 := u_le x
            have HST := Lib.hid hst
            have HRAW := Lib.hid (raw_out x)
            have HOWN := Lib.hid hown
            have HBH := Lib.hid hBH
            have HB := Lib.hid hb
            have HKL := Lib.hid hKlt
            clear hown hBH hb hKlt hst hcell hout
            have HC1 : Hid (4 * k + 4 ≤ maxLen) := Lib.hid (by unfold maxLen; omega)
            have HC2 : Hid ((4 * k + 4) * 1 ≤ 140737488355328) := Lib.hid (by omega)
            have HC3 : Hid (∀ o : Obj, K + 1 ≤ (wr.alloc o).heap.size) := Lib.hid (fun o => by have := HKL.out; simp; omega)
            go_wp2
            go_region_held3 (fun w' => w'.cell? ⟨H, k, none⟩ = some (.int .u32 (u x)))
              (first | go_keep | (rw [hgrow.cell_far _ (by simp; omega) (Ne.symm hne)]; assumption))
              ((refine step_append_lies _ (by rfl) _ _ _ (by rfl) (K + 1) 5 i0 (.int .u8 0) 1 1 Tryz.underlying79 hi hz0 hz1 hz2 rfl (by omega) _ (4 * k) _ (by rfl) ((HOWN.out.alloc _).drew) ⟨wr.heap.size, 0, none⟩ 4 4 [Value.int .u8 (IntKind.u8.wrap (u x / 16777216)), Value.int .u8 (IntKind.u8.wrap (u x / 65536)), Value.int .u8 (IntKind.u8.wrap (u x / 256)), Value.int .u8 (IntKind.u8.wrap (u x))] (by rfl) (by rfl) (World.news_of_block (cs := #[Value.int .u8 (IntKind.u8.wrap (u x / 16777216)), Value.int .u8 (IntKind.u8.wrap (u x / 65536)), Value.int .u8 (IntKind.u8.wrap (u x / 256)), Value.int .u8 (IntKind.u8.wrap (u x))]) (t := 5) (fr := (0, 0)) (heap_alloc_new wr _)) (by simp [Value.oneCell']) (by omega) HC1.out HC2.out (HC3.out _) (wr.heap.size + 1) (by simp) ?_; intro gg cap w1 hown1 hgrow hat hlt1))
            go_wp2
            go_roundw
            case rel =>
              have h5 := hown1
              rw [HRAW.out, ← HST.out] at h5
              refine ⟨k + 1, by omega, by go_num, h5, ?_, ?_, ?_⟩
              · exact ((HBH.out.alloc _).drew).grown hgrow (Ne.symm hne)
              · have := HKL.out; have := hgrow.size; simp at this; omega
              · exact ((HB.out.alloc HB.out.size _).drew).grown hgrow (by have := HB.out.size; simp; omega) (fun j hj => by have := (HOWN.out.lt j hj).1; omega)
            case measure => simp [intOf]; omega
          · obtain rfl : k = 8 := by omega
            rw [List.take_of_length_le (by omega)] at hown
            have e32 : 4 * 8 = (outS S).length := by omega
            rw [e32] at hown
            have hcv := conv_own wr (K + 1) _ _ hown
            have HBB := Lib.hid hb
            clear hown hb hcell hout hBH
            go_wp2
            go_ret
            rw [HF.out]
            exact ⟨rfl, HBB.out⟩
        -->six
end Go.Proofs.YtggfmnmopfdiaaaGreatDoor
