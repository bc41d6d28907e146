/-
  Contracts of the document's keys: Named, Leaves, Public, Sign.
-/
import Derived.Test.YtanplccigmihfaaGreatDoorK2
import Derived.Test.YtanplccigmihfaaGreatDoorW6
import Derived.Test.YtanplccigmihfaaGreatDoorM7
namespace Go.Proofs.YtanplccigmihfaaGreatDoor
open Go.RowKit Go.Pal

set_option maxHeartbeats 400000 in
theorem refnamed (h : Nat) (root : ByteArray) (hh : h ≤ 4) (hr : root.size ≤ 1000000) (w : World) :
    Calls Tryz.prog 32 #[.int .i64 (h : Int), .string root] w fun e w' => e = .returned (.string (namedB h root)) ∧ Below w.heap.size w w' := by
  have htot : totL [be 1 h, root] ≤ 9000000 := by simp [totL, be_size]; omega
  have HTG := Lib.hid (fun W a c h2 => reftag_any W 5 a c [be 1 h, root] h2 htot (by simp))
  have hp : namedB h root = shaB ⟨(inputL 5 [be 1 h, root]).toArray⟩ := rfl
  have HP := Lib.hid hp
  have hk := numOk_yes (k := 1) (n := (h : Int)) (by omega) (by simp; omega)
  have hB := numB_yes hk
  have hby := number1_any (h : Int)
  rw [hB, hk, Int.toNat_natCast] at hby
  have HBY := Lib.hid hby
  clear htot hp hr hB hk hby
  generalize be 1 h = B at *
  go_enter Tryz.func32, Tryz.ntmps32
  go_wp2_with fail
  refine (HBY.out _).mono ?_
  rintro e w1 ⟨rfl, b1⟩
  have B1 := Lib.hid b1
  clear b1
  go_wp2_with fail
  have c3 := (B1.out).alloc B1.out.size (.cells #[.string B, .string root] 9)
  refine (HTG.out _ _ _ (strs2t _ _ _ _)).mono ?_
  rintro e w4 ⟨rfl, b4⟩
  have C4 := Lib.hid (c3.trans (b4.mono c3.size))
  clear b4 c3
  rw [← HP.out]
  go_wp2
  go_ret
  exact ⟨rfl, C4.out⟩

set_option maxHeartbeats 1000000 in
set_option maxRecDepth 100000 in
theorem refleaves (w : World) (seed : ByteArray) (h : Nat) (hh : h ≤ 4) (hs : seed.size ≤ 1000000) :
    Calls Tryz.prog 34 #[.string seed, .int .i64 (h : Int)] w fun e w' => (∃ b off c, e = .returned (.slice (some ⟨b, off, none⟩) (2 ^ h) c) ∧ StrRow w' (some ⟨b, off, none⟩) (leavesL seed h) ∧ b < w'.heap.size) ∧ Below w.heap.size w w' := by
  obtain ⟨i0, hi0, hz0, hz1, hz2⟩ := info_parts (show (Tryz.prog.info? 9).map (fun i => (i.zero, i.size, i.bytes)) = some (some (.string ⟨#[]⟩), 1, 16) by kernel_rfl)
  have h16 := pow_le16 h hh
  have HPU := Lib.hid (fun W (k : Nat) (hk : k < 2 ^ h) => refpublic W seed k (by omega) hs)
  have HTK := Lib.hid (fun k hk => leaves_take seed h k hk)
  have HEL := Lib.hid (leavesL_length seed h)
  have HPW := Lib.hid (fun k (hk : k ≤ h) => pow_le16 k (by omega))
  have HPS := Lib.hid (fun k : Nat => (Nat.pow_succ 2 k : 2 ^ (k + 1) = 2 ^ k * 2))
  have HPOS := Lib.hid (Nat.two_pow_pos h)
  generalize leavesL seed h = E at *
  clear hs
  go_enter Tryz.func34, Tryz.ntmps34
  go_wp2
  go_loopw [6, 7] (fun n i wr => ∃ k : Nat, k ≤ h ∧ i = .int .i64 k ∧ n = .int .i64 ((2 ^ k : Nat) : Int) ∧ wr = w) (fun _ i _ => h - (intOf i).toNat)
  case atStart => exact ⟨0, by omega, rfl, rfl, rfl⟩
  case round =>
    obtain ⟨k, hk, rfl, rfl, rfl⟩ := hrel
    by_cases hlt : k < h
    · have hp := HPW.out k hk
      have HE := Lib.hid (HPS.out k)
      generalize 2 ^ k = q at *
      have hw : IntKind.i64.wrap (2 * (q : Int)) = 2 * (q : Int) := by rw [IntKind.wrap_i64]; omega
      go_wp2
      go_roundw
      case rel => exact ⟨k + 1, by omega, by go_num, by rw [HE.out]; first | (congr 1; omega) | (congr 2; omega), by first | rfl | trivial⟩
      case measure => simp [intOf]; omega
    · obtain rfl : k = h := by omega
      clear HPW HPS hk hlt hh
      generalize hnn : 2 ^ k = n at *
      have HNN := Lib.hid hnn
      clear hnn
      rename World => w
      go_wp2
      go_loopw [5, 8] (fun v i wr => ∃ j : Nat, j ≤ n ∧ i = .int .i64 j ∧ wr.ownsRow w.heap.size 9 1 v j ((E.take j).map strV) ∧ Below w.heap.size w wr) (fun _ i _ => n - (intOf i).toNat)
      case atStart => exact ⟨0, by omega, rfl, World.ownsRow_nil _ _ _ _, Below.refl _ _⟩
      case round =>
        obtain ⟨j, hj, rfl, hown, hb⟩ := hrel
        by_cases hlt : j < n
        · have htk := HTK.out j hlt
          have hpu := HPU.out wr j hlt
          generalize publicB seed j = z at *
          have HPK := Lib.hid hpu
          have HT1 := Lib.hid htk
          have HO := Lib.hid hown
          have HB := Lib.hid hb
          have HC1 : Hid (j + 1 ≤ maxLen) := Lib.hid (by unfold maxLen; omega)
          have HC2 : Hid ((j + 1) * 16 ≤ 140737488355328) := Lib.hid (by omega)
          clear htk hpu hown hb HPU HTK
          go_wp2_with fail
          refine HPK.out.mono ?_
          rintro e w2 ⟨rfl, b2⟩
          have O2 := Lib.hid (HO.out.kept (Lib.grownBy_below (World.grownBy.refl wr none) b2) (by cases h : Value.ownBlock _ <;> simp))
          have B2 := Lib.hid (HB.out.trans (b2.mono HB.out.size))
          have HC3 : Hid (∀ o : Obj, w.heap.size ≤ (w2.alloc o).heap.size) := Lib.hid (fun o => by have := B2.out.size; simp; omega)
          clear b2 HO HB
          go_wp2_with (at_builtin; refine wpList_append_lies _ rfl _ _ 39 rfl w.heap.size 9 i0 (.string ⟨#[]⟩) 1 16 Tryz.underlying39 hi0 hz0 hz1 hz2 rfl (by omega) _ j _ rfl (O2.out.alloc _) ⟨w2.heap.size, 0, none⟩ 1 1 [strV z] rfl rfl (World.news_of_block (cs := #[strV z]) (t := 9) (fr := (0, 0)) (heap_alloc_new w2 _)) (strV_one z) (by omega) HC1.out HC2.out (HC3.out _) (w2.heap.size + 1) (by simp) ?_)
          intro g3 cap3 w3 hown3 hg3 _ _
          have B3 := Lib.hid ((B2.out.alloc B2.out.size _).grown hg3 (HC3.out _) (fun j hj => (O2.out.lt j hj).1))
          have O3 := Lib.hid hown3
          clear hown3 hg3 O2 B2
          go_wp2
          go_roundw
          case rel => exact ⟨j + 1, by omega, by go_num, by rw [HT1.out, List.map_append, List.map_take]; exact O3.out, B3.out⟩
          case measure => simp [intOf]; omega
        · obtain rfl : j = n := by omega
          rw [List.take_of_length_le (by rw [HEL.out]; omega)] at hown
          obtain ⟨a2, c2, rfl, hrow⟩ := own_strs hown HEL.out
          rw [HEL.out]
          obtain ⟨bb, off, rfl, hbb⟩ := strRow_some hrow (by rw [HEL.out]; exact HPOS.out)
          have HR := Lib.hid hrow
          have HB := Lib.hid hb
          clear hown hrow hb
          go_wp2
          go_ret
          exact ⟨⟨bb, off, c2, by rw [HNN.out]; rfl, HR.out, hbb⟩, HB.out⟩

set_option maxHeartbeats 400000 in
theorem refpublic5 (w : World) (seed : ByteArray) (h : Nat) (hh : h ≤ 4) (hs : seed.size ≤ 1000000) :
    Calls Tryz.prog 14 #[.string seed, .int .i64 (h : Int)] w fun e w' => e = .returned (.string (keyB seed h)) ∧ Below w.heap.size w w' := by
  have HLV := Lib.hid (refleaves w seed h hh hs)
  have hrt := fun W b off c h1 h2 => refroot_any W b off c (leavesL seed h) h hh (leavesL_length _ _) h1 h2 (leaves_small _ _)
  rw [leavesL_length] at hrt
  have HRT := Lib.hid hrt
  have HNM := Lib.hid (fun W => refnamed h (rootB seed h) hh (by rw [rootB_size]; omega) W)
  have HKE := Lib.hid (show keyB seed h = namedB h (rootB seed h) from rfl)
  have HRE := Lib.hid (show rootB seed h = (rowN h (leavesL seed h)).getD 0 ByteArray.empty from rfl)
  clear hrt hs
  go_enter Tryz.func14, Tryz.ntmps14
  go_wp2_with fail
  refine HLV.out.mono ?_
  rintro e w1 ⟨⟨bb, off, c, rfl, r1, hb1⟩, b1⟩
  have HR1 := Lib.hid (HRT.out w1 bb off c r1 hb1)
  have B1 := Lib.hid b1
  rw [← HRE.out] at HR1
  clear r1 b1 hb1
  go_wp2_with fail
  refine HR1.out.mono ?_
  rintro e w2 ⟨rfl, b2⟩
  have B2 := Lib.hid (B1.out.trans (b2.mono B1.out.size))
  clear b2
  go_wp2_with fail
  refine (HNM.out w2).mono ?_
  rintro e w3 ⟨rfl, b3⟩
  have B3 := Lib.hid (B2.out.trans (b3.mono B2.out.size))
  rw [← HKE.out]
  clear b3
  go_wp2
  go_ret
  exact ⟨rfl, B3.out⟩

set_option maxHeartbeats 2000000 in
set_option maxRecDepth 100000 in
theorem refsign5 (w : World) (seed : ByteArray) (h leaf : Nat) (m : ByteArray) (hh : h ≤ 4) (hl : leaf < 2 ^ h) (hs : seed.size ≤ 1000000) (hm : m.size ≤ 1000000) :
    Calls Tryz.prog 20 #[.string seed, .int .i64 (h : Int), .int .i64 (leaf : Int), .string m] w fun e w' => e = .returned (.string (sigB seed h leaf m)) ∧ Below w.heap.size w w' := by
  have h16 := pow_le16 h hh
  have HLV := Lib.hid (fun W => refleaves W seed h hh hs)
  have hpt := fun W b off c h1 h2 => refpath_any W b off c (leavesL seed h) h leaf hh (leavesL_length _ _) hl h1 h2 (leaves_small _ _)
  rw [leavesL_length] at hpt
  have HPT := Lib.hid hpt
  have htot : totL [m] ≤ 9000000 := by simp [totL]; omega
  have HTG := Lib.hid (fun W a c h2 => reftag_any W 6 a c [m] h2 htot (by simp))
  rw [← show msgB m = shaB ⟨(inputL 6 [m]).toArray⟩ from rfl] at HTG
  have HSG := Lib.hid (fun W => refsign W seed leaf (msgB m) (by omega) hs (msgB_size m))
  rw [← show valsL seed leaf m = signL seed leaf (digL (msgB m).data.toList) from rfl] at HSG
  rw [← show pathL seed h leaf = pathTo (leavesL seed h) leaf h from rfl] at HPT
  have hk2 := numOk_yes (k := 2) (n := (leaf : Int)) (by omega) (by simp; omega)
  have hB2 := numB_yes hk2
  have hsh := number2_any (leaf : Int)
  rw [hB2, hk2, Int.toNat_natCast] at hsh
  have HSH := Lib.hid hsh
  have HVL := Lib.hid (valsL_length seed leaf m)
  have HPL := Lib.hid (pathL_length seed h leaf)
  have hv32 := valsL_32 seed leaf m
  have hp32 := pathL_32 seed h leaf hl
  have HSI := Lib.hid (show sigB seed h leaf m = be 2 leaf ++ catB (valsL seed leaf m) ++ catB (pathL seed h leaf) from rfl)
  have hcat : ∀ (l : List ByteArray) (k : Nat), k < l.length → catB (l.take (k + 1)) = catB (l.take k) ++ l.getD k ByteArray.empty := by
    intro l k hk
    rw [List.take_succ_eq_append_getElem hk, catB_snoc]; simp [hk]
  have hcsz : ∀ (l : List ByteArray) (k : Nat), All32 l → l.length ≤ 100 → (catB (l.take k)).size ≤ 3200 := by
    intro l k h1 h2
    have : All32 (l.take k) := fun i hi => by
      rw [List.length_take] at hi
      have := h1 i (by omega)
      rw [List.getD_eq_getElem?_getD] at this ⊢
      rw [List.getElem?_take_of_lt (by omega)]
      exact this
    rw [catB_size _ this, List.length_take]; omega
  have HCAT := Lib.hid hcat
  have HCS1 := Lib.hid (fun k => hcsz _ k hv32 (by rw [valsL_length]; omega))
  have HCS2 := Lib.hid (fun k => hcsz _ k hp32 (by rw [pathL_length]; omega))
  have HE1 := Lib.hid (fun k (hk : k < (valsL seed leaf m).length) => hv32 k hk)
  have HE2 := Lib.hid (fun k (hk : k < (pathL seed h leaf).length) => hp32 k hk)
  have HBE := Lib.hid (be_size 2 leaf)
  clear hpt hsh hk2 hB2 htot hs hm hcat hcsz hv32 hp32
  generalize valsL seed leaf m = V at *
  generalize pathL seed h leaf = Q at *
  generalize be 2 leaf = N0 at *
  go_enter Tryz.func20, Tryz.ntmps20
  go_wp2_with fail
  refine (HSH.out _).mono ?_
  rintro e w1 ⟨rfl, b1⟩
  have B1 := Lib.hid b1
  clear b1
  go_wp2_with fail
  have c2 := (B1.out).alloc B1.out.size (.cells #[.string m] 9)
  refine (HTG.out _ _ _ (strs1t _ _ _)).mono ?_
  rintro e w2 ⟨rfl, b2⟩
  have B2 := Lib.hid (c2.trans (b2.mono c2.size))
  clear b2 c2
  go_wp2_with fail
  refine (HSG.out _).mono ?_
  rintro e w3 ⟨⟨va, vc, rfl, r3⟩, b3⟩
  have B3 := Lib.hid (B2.out.trans (b3.mono B2.out.size))
  have R3 := Lib.hid r3
  clear b3 r3
  go_wp2_with fail
  refine (HLV.out _).mono ?_
  rintro e w4 ⟨⟨lb, lo, lc, rfl, r4, hlb⟩, b4⟩
  have B4 := Lib.hid (B3.out.trans (b4.mono B3.out.size))
  have R4 := Lib.hid (R3.out.below b4)
  have HP4 := Lib.hid (HPT.out w4 lb lo lc r4 hlb)
  clear b4 r4 hlb
  go_wp2_with fail
  refine HP4.out.mono ?_
  rintro e w5 ⟨⟨pa, pc, rfl, r5⟩, b5⟩
  have B5 := Lib.hid (B4.out.trans (b5.mono B4.out.size))
  have RV := Lib.hid (R4.out.below b5)
  have RP := Lib.hid r5
  clear b5 r5 HLV HPT HSH HTG HSG HP4
  go_wp2
  go_loopw [9, 13] (fun s i wr => ∃ k : Nat, k ≤ 67 ∧ i = .int .i64 k ∧ s = .string (N0 ++ catB (V.take k)) ∧ wr = w5) (fun _ i _ => 67 - (intOf i).toNat)
  case atStart => exact ⟨0, by omega, rfl, by simp [catB_nil], rfl⟩
  case round =>
    obtain ⟨k, hk, rfl, rfl, rfl⟩ := hrel
    by_cases hlt : k < 67
    · obtain ⟨vb, vo, rfl, _⟩ := strRow_some RV.out (by rw [HVL.out]; omega)
      have ck := strRow_cell RV.out k (by rw [HVL.out]; exact hlt)
      have hz : (N0 ++ catB (V.take k)).size ≤ 3300 := by rw [ByteArray.size_append, HBE.out]; have := HCS1.out k; omega
      have hzk : (V.getD k ByteArray.empty).size ≤ 32 := by rw [HE1.out k (by rw [HVL.out]; exact hlt)]; omega
      have HN := Lib.hid (show N0 ++ catB (V.take (k + 1)) = (N0 ++ catB (V.take k)) ++ V.getD k ByteArray.empty by rw [HCAT.out V k (by rw [HVL.out]; exact hlt), ByteArray.append_assoc])
      generalize V.getD k ByteArray.empty = x at *
      generalize N0 ++ catB (V.take k) = s at *
      go_wp2
      go_roundw
      case rel => exact ⟨k + 1, by omega, by go_num, by rw [HN.out], by first | rfl | trivial⟩
      case measure => simp [intOf]; omega
    · obtain rfl : k = 67 := by omega
      rw [List.take_of_length_le (by rw [HVL.out]; omega)]
      have hzz : (N0 ++ catB V).size ≤ 3300 := by
        rw [ByteArray.size_append, HBE.out]
        have := HCS1.out 67
        rw [List.take_of_length_le (by rw [HVL.out]; omega)] at this
        omega
      have HSI2 := Lib.hid HSI.out
      generalize N0 ++ catB V = S0 at *
      have HZ := Lib.hid hzz
      clear hzz hk hlt HCS1 HE1 RV R4
      rw [show ((67 : Nat) : Int) = 67 from rfl]
      rename World => w5
      go_wp2
      go_loopw [9, 14] (fun s i wr => ∃ k : Nat, k ≤ h ∧ i = .int .i64 k ∧ s = .string (S0 ++ catB (Q.take k)) ∧ wr = w5) (fun _ i _ => h - (intOf i).toNat)
      case atStart => exact ⟨0, by omega, rfl, by simp [catB_nil], rfl⟩
      case round =>
        obtain ⟨k, hk, rfl, rfl, rfl⟩ := hrel
        by_cases hlt : k < h
        · obtain ⟨vb, vo, rfl, _⟩ := strRow_some RP.out (by rw [HPL.out]; omega)
          have ck := strRow_cell RP.out k (by rw [HPL.out]; exact hlt)
          have hz : (S0 ++ catB (Q.take k)).size ≤ 6600 := by rw [ByteArray.size_append]; have := HCS2.out k; have := HZ.out; omega
          have hzk : (Q.getD k ByteArray.empty).size ≤ 32 := by rw [HE2.out k (by rw [HPL.out]; exact hlt)]; omega
          have HN := Lib.hid (show S0 ++ catB (Q.take (k + 1)) = (S0 ++ catB (Q.take k)) ++ Q.getD k ByteArray.empty by rw [HCAT.out Q k (by rw [HPL.out]; exact hlt), ByteArray.append_assoc])
          generalize Q.getD k ByteArray.empty = x at *
          generalize S0 ++ catB (Q.take k) = s at *
          go_wp2
          go_roundw
          case rel => exact ⟨k + 1, by omega, by go_num, by rw [HN.out], by first | rfl | trivial⟩
          case measure => simp [intOf]; omega
        · obtain rfl : k = h := by omega
          rw [List.take_of_length_le (by rw [HPL.out]; omega)]
          go_wp2
          go_ret
          exact ⟨by rw [HSI2.out]; rfl, B5.out⟩
end Go.Proofs.YtanplccigmihfaaGreatDoor
