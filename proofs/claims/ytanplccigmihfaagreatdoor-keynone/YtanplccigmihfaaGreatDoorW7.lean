/-
  Contract of the document's Recover.
-/
import Derived.Test.YtanplccigmihfaaGreatDoorW6
namespace Go.Pal
open Go.RowKit
/-- What is summed on one chain, and on the first ones. -/
def roadC (_dl : List Nat) (vs : List ByteArray) (k j : Nat) : List ByteArray := (List.range j).map fun q => ⟨(inputL 1 [be 1 k, chainB k (vs.getD k ByteArray.empty) q]).toArray⟩
def roadR (dl : List Nat) (vs : List ByteArray) (n : Nat) : List ByteArray := (List.range n).flatMap fun k => roadC dl vs k (15 - dl.getD k 0)
theorem roadC_succ (dl : List Nat) (vs : List ByteArray) (k j : Nat) : roadC dl vs k (j + 1) = roadC dl vs k j ++ [⟨(inputL 1 [be 1 k, chainB k (vs.getD k ByteArray.empty) j]).toArray⟩] := by simp [roadC, List.range_succ]
theorem roadC_length (dl : List Nat) (vs : List ByteArray) (k j : Nat) : (roadC dl vs k j).length = j := by simp [roadC]
theorem roadR_succ (dl : List Nat) (vs : List ByteArray) (n : Nat) : roadR dl vs (n + 1) = roadR dl vs n ++ roadC dl vs n (15 - dl.getD n 0) := by simp [roadR, List.range_succ]
theorem roadR_length (dl : List Nat) (vs : List ByteArray) : ∀ n, (roadR dl vs n).length ≤ 15 * n
  | 0 => by simp [roadR]
  | n + 1 => by
    have := roadR_length dl vs n
    rw [roadR_succ, List.length_append, roadC_length]; omega
theorem walkV_take (vs : List ByteArray) (st : Nat → Nat) (k : Nat) (hk : k < vs.length) : (walkL vs st).take (k + 1) = (walkL vs st).take k ++ [chainB k (vs.getD k ByteArray.empty) (st k)] := by
  have hl : k < (walkL vs st).length := by rw [walkL_length]; exact hk
  have g := walkL_get vs st k hk
  rw [List.getD_eq_getElem?_getD, List.getElem?_eq_getElem hl] at g
  rw [List.take_succ_eq_append_getElem hl, ← g]; rfl
theorem own_apart {w w' : World} {base : Nat} {t : TypeId} {v u : Value} {n : Nat} {l : List Value} {g cap m : Nat} {o : Obj} (hv : w.ownsRow base t 1 v n l) (hne : v.ownBlock = none ∨ v.ownBlock ≠ u.ownBlock) (hg : (w.alloc o).grownBy w' u.ownBlock) (hat : u.ownBlock = some g ∨ g = w.heap.size + 1) :
    w'.ownsRow base t 1 v n l ∧ (v.ownBlock = none ∨ v.ownBlock ≠ (Value.slice (some ⟨g, 0, none⟩) m cap).ownBlock) := by
  refine ⟨(hv.alloc o).kept hg hne, ?_⟩
  rcases hne with h | h
  · exact .inl h
  · right
    rcases hat with h2 | h2
    · rw [show (Value.slice (some ⟨g, 0, none⟩) m cap).ownBlock = some g from rfl, ← h2]; exact h
    · intro e
      have := (hv.lt g (by rw [e]; rfl)).2
      omega
end Go.Pal
namespace Go.Proofs.YtanplccigmihfaaGreatDoor
open Go.RowKit Go.Pal

set_option maxHeartbeats 4000000 in
set_option maxRecDepth 100000 in
theorem refrecover (w : World) (d : ByteArray) (b off cap : Nat) (vs : List ByteArray) (hd : d.size = 32) (hv : StrRow w (some ⟨b, off, none⟩) vs) (hbl : b < w.heap.size) (hlen : vs.length = 67) (hsm : ∀ i, (vs.getD i ByteArray.empty).size ≤ 1000) :
    Calls Tryz.prog 49 #[.string d, .slice (some ⟨b, off, none⟩) 67 cap] w fun e w' => (∃ a n c, e = .returned (.tuple #[.string (recoverB (digL d.data.toList) vs), .slice a n c]) ∧ n = (roadR (digL d.data.toList) vs 67).length + 1 ∧ StrRow w' a (roadR (digL d.data.toList) vs 67 ++ [⟨(inputL 3 (walkL vs fun k => 15 - (digL d.data.toList).getD k 0)).toArray⟩])) ∧ Below w.heap.size w w' := by
  obtain ⟨i0, hi0, hz0, hz1, hz2⟩ := info_parts (show (Tryz.prog.info? 9).map (fun i => (i.zero, i.size, i.bytes)) = some (some (.string ⟨#[]⟩), 1, 16) by kernel_rfl)
  have HD := Lib.hid (refdigits d hd w)
  have hdl := digL_length d.data.toList
  have h16 := getD_lt (digL d.data.toList) 16 (by omega) (digL_lt d.data.toList (by simp; omega))
  rw [show d.data.toList.length = 32 by simp [hd]] at hdl
  generalize digL d.data.toList = dl at *
  have HTK := Lib.hid (fun k (hk : k < 67) => walkV_take vs (fun k => 15 - dl.getD k 0) k (by omega))
  have hel : (walkL vs fun k => 15 - dl.getD k 0).length = 67 := by rw [walkL_length, hlen]
  have htot : totL (walkL vs fun k => 15 - dl.getD k 0) ≤ 9000000 := by
    have := totL_le (walkL vs fun k => 15 - dl.getD k 0) 1000 (walkL_le _ _ 1000 (by omega) hsm)
    rw [hel] at this; omega
  have HTG := Lib.hid (fun W a c h => reftag_any W 3 a c (walkL vs fun k => 15 - dl.getD k 0) h htot (by omega))
  have HTI := Lib.hid (fun W a c h => refinput_any W 3 a c (walkL vs fun k => 15 - dl.getD k 0) h (by omega) (by omega))
  rw [hel] at HTG HTI
  have hp : recoverB dl vs = shaB ⟨(inputL 3 (walkL vs fun k => 15 - dl.getD k 0)).toArray⟩ := rfl
  rw [← hp] at HTG
  have HRL := Lib.hid (roadR_length dl vs)
  have HRS := Lib.hid (roadR_succ dl vs)
  have HCS := Lib.hid (roadC_succ dl vs)
  have HCL := Lib.hid (roadC_length dl vs)
  have HC0 := Lib.hid (fun k => show roadC dl vs k 0 = [] from rfl)
  have HR0 := Lib.hid (show roadR dl vs 0 = [] from rfl)
  have HCH := Lib.hid (fun k j => chainB_le (k : Nat) (vs.getD k ByteArray.empty) 1000 (by omega) (hsm k) j)
  have HV := Lib.hid hv
  have HEL := Lib.hid hel
  have H16 := Lib.hid h16
  have HDL := Lib.hid hdl
  have HLEN := Lib.hid hlen
  obtain ⟨I3, hI3⟩ : ∃ I3 : ByteArray, I3 = ⟨(inputL 3 (walkL vs fun k => 15 - dl.getD k 0)).toArray⟩ := ⟨_, rfl⟩
  rw [← hI3] at HTI ⊢
  generalize recoverB dl vs = P at *
  obtain ⟨E, hE⟩ : ∃ E, E = walkL vs fun k => 15 - dl.getD k 0 := ⟨_, rfl⟩
  rw [← hE] at HTK HTG HTI HEL
  obtain ⟨RR, hRR⟩ : ∃ RR, RR = roadR dl vs := ⟨_, rfl⟩
  obtain ⟨RC, hRC⟩ : ∃ RC, RC = roadC dl vs := ⟨_, rfl⟩
  rw [← hRR] at HRL HRS HR0 ⊢
  rw [← hRC] at HRS HCS HCL HC0
  clear hel htot hp hI3 hE hRR hRC hsm hdl h16 hv hlen
  go_enter Tryz.func49, Tryz.ntmps49
  go_wp2_with fail
  refine HD.out.mono ?_
  rintro e w1 ⟨⟨v, rfl, hown1⟩, b1⟩
  obtain ⟨dg, dc, rfl, _, hdg⟩ := hown1.form (by omega)
  have HDC := Lib.hid (fun k (hk : k < 67) => (hown1.cellAt k (by omega)).trans (ints_get? dl k (by have := HDL.out; omega)))
  have B1 := Lib.hid b1
  have HV1 := Lib.hid (HV.out.below b1)
  have hbl1 : b < w1.heap.size := Nat.lt_of_lt_of_le hbl b1.size
  clear b1 hown1 HD HV
  go_wp2
  go_loopw [7, 8, 9] (fun v7 v8 vk wr => ∃ k n : Nat, k ≤ 67 ∧ vk = .int .i64 k ∧ n = (RR k).length ∧ wr.ownsRow w1.heap.size 9 1 v7 k ((E.take k).map strV) ∧ wr.ownsRow w1.heap.size 9 1 v8 n ((RR k).map strV) ∧ (v7.ownBlock = none ∨ v7.ownBlock ≠ v8.ownBlock) ∧ Below w1.heap.size w1 wr) (fun _ _ vk _ => 67 - (intOf vk).toNat)
  case atStart => exact ⟨0, 0, by omega, rfl, by rw [HR0.out]; rfl, World.ownsRow_nil _ _ _ _, by rw [HR0.out]; exact World.ownsRow_nil _ _ _ _, .inl rfl, Below.refl _ _⟩
  case round =>
    obtain ⟨k, n, hk, rfl, hn, hown7, hown8, hne, hb⟩ := hrel
    by_cases hlt : k < 67
    · have k1 := (hb.cell (p := ⟨dg, k, none⟩) hdg).trans (HDC.out k hlt)
      have k2 := (hb.cell (p := ⟨b, off + k, none⟩) hbl1).trans (strRow_cell HV1.out k (by have := HLEN.out; omega))
      have hd16 := H16.out k
      have htk := HTK.out k hlt
      have hrs := HRS.out k
      have hrl := HRL.out k
      have hc0 := HC0.out k
      have hcs := fun j => HCS.out k j
      have hcl := fun j => HCL.out k j
      have hch := fun j => HCH.out k j
      have hb1 := numOk_yes (k := 1) (n := (k : Int)) (by omega) (by simp; omega)
      have hB1 := numB_yes hb1
      have hnum := number1_any (k : Int)
      rw [hB1, hb1, Int.toNat_natCast] at hnum
      have hbz := be_size 1 k
      have hstep : ∀ j, chainB (k : Int) (vs.getD k ByteArray.empty) (j + 1) = stepB (k : Int) (chainB (k : Int) (vs.getD k ByteArray.empty) j) := fun j => rfl
      have h0 : chainB (k : Int) (vs.getD k ByteArray.empty) 0 = vs.getD k ByteArray.empty := rfl
      generalize vs.getD k ByteArray.empty = V at *
      generalize dl.getD k 0 = dk at *
      generalize be 1 k = KB at *
      obtain ⟨C, hC⟩ : ∃ C, C = chainB (k : Int) V := ⟨_, rfl⟩
      rw [← hC] at hcs hch hstep h0 htk
      generalize RR k = Rk at *
      generalize hRk2 : RR (k + 1) = Rk2 at *
      generalize RC k = RCk at *
      have HHTK := Lib.hid htk
      have HHRS := Lib.hid hrs
      have HHCS := Lib.hid hcs
      have HHCL := Lib.hid hcl
      have HHCH := Lib.hid hch
      have HHST := Lib.hid hstep
      have HH0 := Lib.hid h0
      have HHC0 := Lib.hid hc0
      have HNUM := Lib.hid hnum
      have HRK2 := Lib.hid hRk2
      have HO7 := Lib.hid hown7
      have HO8 := Lib.hid hown8
      have HNE := Lib.hid hne
      have HB := Lib.hid hb
      have HBZ := Lib.hid hbz
      have HNN := Lib.hid hn
      have hnb : n ≤ 15 * k := by omega
      clear htk hrs hrl hc0 hcs hcl hch hb1 hB1 hnum hbz hstep h0 hC hRk2 hown7 hown8 hne hb hn
      go_wp2_with fail
      refine (HNUM.out _).mono ?_
      rintro e w2 ⟨rfl, b2⟩
      have B2 := Lib.hid (HB.out.trans (b2.mono HB.out.size))
      have O7 := Lib.hid (HO7.out.kept (Lib.grownBy_below (World.grownBy.refl wr none) b2) (by cases h : Value.ownBlock _ <;> simp))
      have O8 := Lib.hid (HO8.out.kept (Lib.grownBy_below (World.grownBy.refl wr none) b2) (by cases h : Value.ownBlock _ <;> simp))
      have k1' := (b2.cell (p := ⟨dg, k, none⟩) (Nat.lt_of_lt_of_le hdg HB.out.size)).trans k1
      clear b2 HO7 HO8 HB k1 k2
      go_wp2
      clear k1'
      go_loopw [8, 10, 13] (fun v8 v10 vi wr => ∃ j m : Nat, dk + j ≤ 15 ∧ vi = .int .i64 ((dk + j : Nat) : Int) ∧ v10 = .string (C j) ∧ m = n + j ∧ wr.ownsRow w1.heap.size 9 1 u7 k ((E.take k).map strV) ∧ wr.ownsRow w1.heap.size 9 1 v8 m ((Rk ++ RCk j).map strV) ∧ (u7.ownBlock = none ∨ u7.ownBlock ≠ v8.ownBlock) ∧ Below w1.heap.size w1 wr) (fun _ _ vi _ => 15 - (intOf vi).toNat)
      case atStart => exact ⟨0, n, by omega, rfl, by rw [HH0.out], rfl, O7.out, by rw [HHC0.out, List.append_nil]; exact O8.out, HNE.out, B2.out⟩
      case round =>
        clear O7 O8 B2 HNE
        obtain ⟨j, m, hj, rfl, rfl, hm, o7, o8, hne, hb⟩ := hrel
        by_cases hjl : dk + j < 15
        · have hcs := HHCS.out j
          have hz := HHCH.out j
          have hst := HHST.out j
          have hri := fun W a c h => refinput_any W 1 a c [KB, C j] h (by have := HBZ.out; simp [totL]; omega) (by simp)
          have hrst := fun W => refstep_any W (k : Int) (C j) (by omega)
          rw [← hst] at hrst
          have hq : Rk ++ RCk (j + 1) = (Rk ++ RCk j) ++ [⟨(inputL 1 [KB, C j]).toArray⟩] := by rw [hcs, List.append_assoc]
          generalize C j = X at *
          generalize hX2 : C (j + 1) = X2 at *
          generalize (⟨(inputL 1 [KB, X]).toArray⟩ : ByteArray) = J at *
          generalize Rk ++ RCk j = Q at *
          have HX2 := Lib.hid hX2
          have HCSJ := Lib.hid hq
          have HRI := Lib.hid hri
          have HRST := Lib.hid hrst
          have O7 := Lib.hid o7
          have O8 := Lib.hid o8
          have HNE := Lib.hid hne
          have HB := Lib.hid hb
          have HMM := Lib.hid hm
          have HC1 : Hid (m + 1 ≤ maxLen) := Lib.hid (by unfold maxLen; omega)
          have HC2 : Hid ((m + 1) * 16 ≤ 140737488355328) := Lib.hid (by omega)
          clear hcs hst hri hrst hX2 o7 o8 hne hb hm hq
          go_wp2_with fail
          have c1 := HB.out.alloc HB.out.size (.cells #[.string KB, .string X] 9)
          refine (HRI.out _ _ _ (strs2t wr 9 KB X)).mono ?_
          rintro e w3 ⟨rfl, b3⟩
          have B3 := Lib.hid (c1.trans (b3.mono c1.size))
          have P7 := Lib.hid ((O7.out.alloc _).kept (Lib.grownBy_below (World.grownBy.refl _ none) b3) (by cases h : Value.ownBlock _ <;> simp))
          have P8 := Lib.hid ((O8.out.alloc _).kept (Lib.grownBy_below (World.grownBy.refl _ none) b3) (by cases h : Value.ownBlock _ <;> simp))
          have HC3 : Hid (∀ o : Obj, w1.heap.size ≤ (w3.alloc o).heap.size) := Lib.hid (fun o => by have := B3.out.size; simp; omega)
          clear c1 b3 O7 O8 HB HRI
          go_wp2_with (at_builtin; refine wpList_append_lies _ rfl _ _ 39 rfl w1.heap.size 9 i0 (.string ⟨#[]⟩) 1 16 Tryz.underlying39 hi0 hz0 hz1 hz2 rfl (by omega) _ m _ rfl (P8.out.alloc _) ⟨w3.heap.size, 0, none⟩ 1 1 [strV J] rfl rfl (World.news_of_block (cs := #[strV J]) (t := 9) (fr := (0, 0)) (heap_alloc_new w3 _)) (strV_one J) (by omega) HC1.out HC2.out (HC3.out _) (w3.heap.size + 1) (by simp) ?_)
          intro g4 cap4 w4 hown4 hg4 hat4 _
          have hap := own_apart (m := m + 1) (cap := cap4) P7.out HNE.out hg4 hat4
          have B4 := Lib.hid ((B3.out.alloc B3.out.size _).grown hg4 (HC3.out _) (fun q hq => (P8.out.lt q hq).1))
          have Q7 := Lib.hid hap.1
          have QN := Lib.hid hap.2
          have Q8 := Lib.hid hown4
          clear hap hown4 hg4 hat4 P7 P8 B3 HC1 HC2 HC3 HNE
          go_wp2_with fail
          refine (HRST.out _).mono ?_
          rintro e w5 ⟨rfl, b5⟩
          have B5 := Lib.hid (B4.out.trans (b5.mono B4.out.size))
          have R7 := Lib.hid (Q7.out.kept (Lib.grownBy_below (World.grownBy.refl _ none) b5) (by cases h : Value.ownBlock _ <;> simp))
          have R8 := Lib.hid (Q8.out.kept (Lib.grownBy_below (World.grownBy.refl _ none) b5) (by simp [Value.ownBlock]))
          clear b5 Q7 Q8 B4
          go_wp2
          go_roundw
          case rel => exact ⟨j + 1, m + 1, by omega, by go_num, by rw [HX2.out], by have := HMM.out; omega, R7.out, by rw [HCSJ.out, List.map_append]; exact R8.out, QN.out, B5.out⟩
          case measure => simp [intOf]; omega
        · obtain rfl : j = 15 - dk := by omega
          have hlj := HHCL.out (15 - dk)
          have htk := HHTK.out
          have hrs := HHRS.out
          generalize C (15 - dk) = X at *
          rw [← hrs] at o8
          have hml : m = Rk2.length := by rw [hrs, List.length_append, hlj, ← HNN.out]; exact hm
          have hne2 : u8.ownBlock = none ∨ u8.ownBlock ≠ u7.ownBlock := by
            rcases hne with h | h
            · rw [h]; cases h2 : u8.ownBlock
              · exact .inl rfl
              · exact .inr (by simp)
            · exact .inr (Ne.symm h)
          have O7 := Lib.hid o7
          have O8 := Lib.hid o8
          have HNE := Lib.hid hne2
          have HB := Lib.hid hb
          have HML := Lib.hid hml
          have HTKK := Lib.hid htk
          have hdk : dk ≤ 15 := by omega
          have hvi : dk + (15 - dk) = 15 := by omega
          have HC1 : Hid (k + 1 ≤ maxLen) := Lib.hid (by unfold maxLen; omega)
          have HC2 : Hid ((k + 1) * 16 ≤ 140737488355328) := Lib.hid (by omega)
          have HC3 : Hid (∀ o : Obj, w1.heap.size ≤ (wr.alloc o).heap.size) := Lib.hid (fun o => by have := HB.out.size; simp; omega)
          rw [hvi]
          clear hlj htk hrs o7 o8 hne hne2 hb hml hvi hm hj hjl
          rw [show ((15 : Nat) : Int) = 15 from rfl]
          go_wp2_with (at_builtin; refine wpList_append_lies _ rfl _ _ 39 rfl w1.heap.size 9 i0 (.string ⟨#[]⟩) 1 16 Tryz.underlying39 hi0 hz0 hz1 hz2 rfl (by omega) _ k _ rfl (O7.out.alloc _) ⟨wr.heap.size, 0, none⟩ 1 1 [strV X] rfl rfl (World.news_of_block (cs := #[strV X]) (t := 9) (fr := (0, 0)) (heap_alloc_new wr _)) (strV_one X) (by omega) HC1.out HC2.out (HC3.out _) (wr.heap.size + 1) (by simp) ?_)
          intro g4 cap4 w4 hown4 hg4 hat4 _
          have hap := own_apart (m := k + 1) (cap := cap4) O8.out HNE.out hg4 hat4
          have B4 := Lib.hid ((HB.out.alloc HB.out.size _).grown hg4 (HC3.out _) (fun q hq => (O7.out.lt q hq).1))
          have Q8 := Lib.hid hap.1
          have QN : Hid ((Value.slice (some ⟨g4, 0, none⟩) (k + 1) cap4).ownBlock = none ∨ (Value.slice (some ⟨g4, 0, none⟩) (k + 1) cap4).ownBlock ≠ u8.ownBlock) := Lib.hid (by
            rcases hap.2 with h | h
            · exact .inr (by rw [h]; simp [Value.ownBlock])
            · exact .inr (Ne.symm h))
          have Q7 := Lib.hid hown4
          clear hap hown4 hg4 hat4 O7 O8 HB HC1 HC2 HC3 HNE
          go_wp2
          go_roundw
          case rel => exact ⟨k + 1, m, by omega, by go_num, by rw [HRK2.out]; exact HML.out, by rw [HTKK.out, List.map_append, List.map_take]; exact Q7.out, by rw [HRK2.out]; exact Q8.out, QN.out, B4.out⟩
          case measure => simp [intOf]; omega
    · obtain rfl : k = 67 := by omega
      rw [List.take_of_length_le (by rw [HEL.out]; omega)] at hown7
      obtain ⟨a2, c2, rfl, hrow⟩ := own_strs hown7 HEL.out
      rw [HEL.out]
      have hrl := HRL.out 67
      have HR := Lib.hid hrow
      have O8 := Lib.hid hown8
      have HB := Lib.hid hb
      have HNN := Lib.hid hn
      have HC1 : Hid (n + 1 ≤ maxLen) := Lib.hid (by unfold maxLen; omega)
      have HC2 : Hid ((n + 1) * 16 ≤ 140737488355328) := Lib.hid (by omega)
      clear hown7 hown8 hrow hb hne hrl hn hlt hk
      rw [show ((67 : Nat) : Int) = 67 from rfl]
      go_wp2_with fail
      refine (HTG.out _ _ _ HR.out).mono ?_
      rintro e w2 ⟨rfl, b2⟩
      have B2 := Lib.hid (HB.out.trans (b2.mono HB.out.size))
      have R2 := Lib.hid (HR.out.below b2)
      have P8 := Lib.hid (O8.out.kept (Lib.grownBy_below (World.grownBy.refl _ none) b2) (by cases h : Value.ownBlock _ <;> simp))
      clear b2 HB HR O8 HTG
      go_wp2_with fail
      refine (HTI.out _ _ _ R2.out).mono ?_
      rintro e w3 ⟨rfl, b3⟩
      have B3 := Lib.hid (B2.out.trans (b3.mono B2.out.size))
      have Q8 := Lib.hid (P8.out.kept (Lib.grownBy_below (World.grownBy.refl _ none) b3) (by cases h : Value.ownBlock _ <;> simp))
      have HC3 : Hid (∀ o : Obj, w1.heap.size ≤ (w3.alloc o).heap.size) := Lib.hid (fun o => by have := B3.out.size; simp; omega)
      clear b3 B2 R2 P8 HTI
      go_wp2_with (at_builtin; refine wpList_append_lies _ rfl _ _ 39 rfl w1.heap.size 9 i0 (.string ⟨#[]⟩) 1 16 Tryz.underlying39 hi0 hz0 hz1 hz2 rfl (by omega) _ n _ rfl (Q8.out.alloc _) ⟨w3.heap.size, 0, none⟩ 1 1 [strV I3] rfl rfl (World.news_of_block (cs := #[strV I3]) (t := 9) (fr := (0, 0)) (heap_alloc_new w3 _)) (strV_one I3) (by omega) HC1.out HC2.out (HC3.out _) (w3.heap.size + 1) (by simp) ?_)
      intro g4 cap4 w4 hown4 hg4 _ _
      have B4 := Lib.hid (B1.out.trans (((B3.out.alloc B3.out.size _).grown hg4 (HC3.out _) (fun q hq => (Q8.out.lt q hq).1)).mono B1.out.size))
      have hroad : StrRow w4 (some ⟨g4, 0, none⟩) (RR 67 ++ [I3]) := by
        have h5 : w4.ownsRow w1.heap.size 9 1 (.slice (some ⟨g4, 0, none⟩) (n + 1) cap4) (n + 1) ((RR 67 ++ [I3]).map strV) := by rw [List.map_append]; exact hown4
        obtain ⟨a5, c5, he, hr⟩ := own_strs h5 (by rw [List.length_append, ← HNN.out]; rfl)
        have : a5 = some ⟨g4, 0, none⟩ := by simp at he; exact he.1.symm
        rw [← this]; exact hr
      have HRD := Lib.hid hroad
      clear hown4 hg4 hroad
      go_wp2
      go_ret2
      exact ⟨⟨_, _, _, rfl, by rw [HNN.out], HRD.out⟩, B4.out⟩

end Go.Proofs.YtanplccigmihfaaGreatDoor
