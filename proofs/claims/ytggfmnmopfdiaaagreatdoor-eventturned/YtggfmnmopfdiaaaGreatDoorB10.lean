/-
  Contracts of the document's keys: Verify, with all that is summed on the way.
-/
import Derived.Test.YtggfmnmopfdiaaaGreatDoorB9
import Derived.Laws.AppendOwnNone
namespace Go.Proofs.YtggfmnmopfdiaaaGreatDoor
open Go.RowKit Go.Pal

theorem own_base {w : World} {b b' : Nat} {t : TypeId} {size : Nat} {v : Value} {n : Nat} {l : List Value} (h : w.ownsRow b t size v n l) (hb : b' ≤ b) : w.ownsRow b' t size v n l := by
  refine ⟨h.1, ?_⟩
  rcases h.2 with h2 | ⟨g, cap, cur, e, hg, r⟩
  · exact .inl h2
  · exact .inr ⟨g, cap, cur, e, Nat.le_trans hb hg, r⟩

set_option maxHeartbeats 4000000 in
set_option maxRecDepth 100000 in
theorem refrecover_own (w : World) (d : ByteArray) (b off cap : Nat) (vs : List ByteArray) (hd : d.size = 32) (hv : StrRow w (some ⟨b, off, none⟩) vs) (hbl : b < w.heap.size) (hlen : vs.length = 67) (hsm : ∀ i, (vs.getD i ByteArray.empty).size ≤ 1000) :
    Calls Tryz.prog 42 #[.string d, .slice (some ⟨b, off, none⟩) 67 cap] w fun e w' => (∃ g n c, e = .returned (.tuple #[.string (recoverB (digL d.data.toList) vs), .slice (some ⟨g, 0, none⟩) n c]) ∧ n = (roadR (digL d.data.toList) vs 67).length + 1 ∧ w'.ownsRow w.heap.size 9 1 (.slice (some ⟨g, 0, none⟩) n c) n ((roadR (digL d.data.toList) vs 67 ++ [(⟨(inputL 3 (walkL vs fun k => 15 - (digL d.data.toList).getD k 0)).toArray⟩ : ByteArray)]).map strV)) ∧ Below w.heap.size w w' := by
  obtain ⟨i0, hi0, hz0, hz1, hz2⟩ := info_parts (show (Tryz.prog.info? 9).map (fun i => (i.zero, i.size, i.bytes)) = some (some (.string ⟨#[]⟩), 1, 16) by kernel_rfl)
  have HD := Lib.hid (refdigits d hd w)
  have hdl := digL_length d.data.toList
  have h16 := getD_lt (digL d.data.toList) 16 (by omega) (digL_lt d.data.toList (by simp; omega))
  rw [show d.data.toList.length = 32 by simp [hd]] at hdl
  generalize digL d.data.toList = dl at *
  have HTK := Lib.hid (fun k (hk : k < 67) => walkV_take vs (fun k => 15 - dl.getD k 0) k (by omega))
  have hel : (walkL vs fun k => 15 - dl.getD k 0).length = 67 := by rw [walkL_length, hlen]
  have htot : totL (walkL vs fun k => 15 - dl.getD k 0) ≤ 9000000 := by
    have := totL_le (walkL vs fun k => 15 - dl.getD k 0) 1000 (walkL_le _ _ 1000 (by omega) hsm)
    rw [hel] at this; omega
  have HTG := Lib.hid (fun W a c h => reftag_any W 3 a c (walkL vs fun k => 15 - dl.getD k 0) h htot (by omega))
  have HTI := Lib.hid (fun W a c h => refinput_any W 3 a c (walkL vs fun k => 15 - dl.getD k 0) h (by omega) (by omega))
  rw [hel] at HTG HTI
  have hp : recoverB dl vs = shaB ⟨(inputL 3 (walkL vs fun k => 15 - dl.getD k 0)).toArray⟩ := rfl
  rw [← hp] at HTG
  have HRL := Lib.hid (roadR_length dl vs)
  have HRS := Lib.hid (roadR_succ dl vs)
  have HCS := Lib.hid (roadC_succ dl vs)
  have HCL := Lib.hid (roadC_length dl vs)
  have HC0 := Lib.hid (fun k => show roadC dl vs k 0 = [] from rfl)
  have HR0 := Lib.hid (show roadR dl vs 0 = [] from rfl)
  have HCH := Lib.hid (fun k j => chainB_le (k : Nat) (vs.getD k ByteArray.empty) 1000 (by omega) (hsm k) j)
  have HV := Lib.hid hv
  have HEL := Lib.hid hel
  have H16 := Lib.hid h16
  have HDL := Lib.hid hdl
  have HLEN := Lib.hid hlen
  obtain ⟨I3, hI3⟩ : ∃ I3 : ByteArray, I3 = ⟨(inputL 3 (walkL vs fun k => 15 - dl.getD k 0)).toArray⟩ := ⟨_, rfl⟩
  rw [← hI3] at HTI ⊢
  generalize recoverB dl vs = P at *
  obtain ⟨E, hE⟩ : ∃ E, E = walkL vs fun k => 15 - dl.getD k 0 := ⟨_, rfl⟩
  rw [← hE] at HTK HTG HTI HEL
  obtain ⟨RR, hRR⟩ : ∃ RR, RR = roadR dl vs := ⟨_, rfl⟩
  obtain ⟨RC, hRC⟩ : ∃ RC, RC = roadC dl vs := ⟨_, rfl⟩
  rw [← hRR] at HRL HRS HR0 ⊢
  rw [← hRC] at HRS HCS HCL HC0
  clear hel htot hp hI3 hE hRR hRC hsm hdl h16 hv hlen
  go_enter Tryz.func42, Tryz.ntmps42
  go_wp2_with fail
  refine HD.out.mono ?_
  rintro e w1 ⟨⟨v, rfl, hown1⟩, b1⟩
  obtain ⟨dg, dc, rfl, _, hdg⟩ := hown1.form (by omega)
  have HDC := Lib.hid (fun k (hk : k < 67) => (hown1.cellAt k (by omega)).trans (ints_get? dl k (by have := HDL.out; omega)))
  have B1 := Lib.hid b1
  have HV1 := Lib.hid (HV.out.below b1)
  have hbl1 : b < w1.heap.size := Nat.lt_of_lt_of_le hbl b1.size
  clear b1 hown1 HD HV
  go_wp2
  go_loopw [7, 8, 9] (fun v7 v8 vk wr => ∃ k n : Nat, k ≤ 67 ∧ vk = .int .i64 k ∧ n = (RR k).length ∧ wr.ownsRow w1.heap.size 9 1 v7 k ((E.take k).map strV) ∧ wr.ownsRow w1.heap.size 9 1 v8 n ((RR k).map strV) ∧ (v7.ownBlock = none ∨ v7.ownBlock ≠ v8.ownBlock) ∧ Below w1.heap.size w1 wr) (fun _ _ vk _ => 67 - (intOf vk).toNat)
  case atStart => exact ⟨0, 0, by omega, rfl, by rw [HR0.out]; rfl, World.ownsRow_nil _ _ _ _, by rw [HR0.out]; exact World.ownsRow_nil _ _ _ _, .inl rfl, Below.refl _ _⟩
  case round =>
    obtain ⟨k, n, hk, rfl, hn, hown7, hown8, hne, hb⟩ := hrel
    by_cases hlt : k < 67
    · have k1 := (hb.cell (p := ⟨dg, k, none⟩) hdg).trans (HDC.out k hlt)
      have k2 := (hb.cell (p := ⟨b, off + k, none⟩) hbl1).trans (strRow_cell HV1.out k (by have := HLEN.out; omega))
      have hd16 := H16.out k
      have htk := HTK.out k hlt
      have hrs := HRS.out k
      have hrl := HRL.out k
      have hc0 := HC0.out k
      have hcs := fun j => HCS.out k j
      have hcl := fun j => HCL.out k j
      have hch := fun j => HCH.out k j
      have hb1 := numOk_yes (k := 1) (n := (k : Int)) (by omega) (by simp; omega)
      have hB1 := numB_yes hb1
      have hnum := number1_any (k : Int)
      rw [hB1, hb1, Int.toNat_natCast] at hnum
      have hbz := be_size 1 k
      have hstep : ∀ j, chainB (k : Int) (vs.getD k ByteArray.empty) (j + 1) = stepB (k : Int) (chainB (k : Int) (vs.getD k ByteArray.empty) j) := fun j => rfl
      have h0 : chainB (k : Int) (vs.getD k ByteArray.empty) 0 = vs.getD k ByteArray.empty := rfl
      generalize vs.getD k ByteArray.empty = V at *
      generalize dl.getD k 0 = dk at *
      generalize be 1 k = KB at *
      obtain ⟨C, hC⟩ : ∃ C, C = chainB (k : Int) V := ⟨_, rfl⟩
      rw [← hC] at hcs hch hstep h0 htk
      generalize RR k = Rk at *
      generalize hRk2 : RR (k + 1) = Rk2 at *
      generalize RC k = RCk at *
      have HHTK := Lib.hid htk
      have HHRS := Lib.hid hrs
      have HHCS := Lib.hid hcs
      have HHCL := Lib.hid hcl
      have HHCH := Lib.hid hch
      have HHST := Lib.hid hstep
      have HH0 := Lib.hid h0
      have HHC0 := Lib.hid hc0
      have HNUM := Lib.hid hnum
      have HRK2 := Lib.hid hRk2
      have HO7 := Lib.hid hown7
      have HO8 := Lib.hid hown8
      have HNE := Lib.hid hne
      have HB := Lib.hid hb
      have HBZ := Lib.hid hbz
      have HNN := Lib.hid hn
      have hnb : n ≤ 15 * k := by omega
      clear htk hrs hrl hc0 hcs hcl hch hb1 hB1 hnum hbz hstep h0 hC hRk2 hown7 hown8 hne hb hn
      go_wp2_with fail
      refine (HNUM.out _).mono ?_
      rintro e w2 ⟨rfl, b2⟩
      have B2 := Lib.hid (HB.out.trans (b2.mono HB.out.size))
      have O7 := Lib.hid (HO7.out.kept (Lib.grownBy_below (World.grownBy.refl wr none) b2) (by cases h : Value.ownBlock _ <;> simp))
      have O8 := Lib.hid (HO8.out.kept (Lib.grownBy_below (World.grownBy.refl wr none) b2) (by cases h : Value.ownBlock _ <;> simp))
      have k1' := (b2.cell (p := ⟨dg, k, none⟩) (Nat.lt_of_lt_of_le hdg HB.out.size)).trans k1
      clear b2 HO7 HO8 HB k1 k2
      go_wp2
      clear k1'
      go_loopw [8, 10, 13] (fun v8 v10 vi wr => ∃ j m : Nat, dk + j ≤ 15 ∧ vi = .int .i64 ((dk + j : Nat) : Int) ∧ v10 = .string (C j) ∧ m = n + j ∧ wr.ownsRow w1.heap.size 9 1 u7 k ((E.take k).map strV) ∧ wr.ownsRow w1.heap.size 9 1 v8 m ((Rk ++ RCk j).map strV) ∧ (u7.ownBlock = none ∨ u7.ownBlock ≠ v8.ownBlock) ∧ Below w1.heap.size w1 wr) (fun _ _ vi _ => 15 - (intOf vi).toNat)
      case atStart => exact ⟨0, n, by omega, rfl, by rw [HH0.out], rfl, O7.out, by rw [HHC0.out, List.append_nil]; exact O8.out, HNE.out, B2.out⟩
      case round =>
        clear O7 O8 B2 HNE
        obtain ⟨j, m, hj, rfl, rfl, hm, o7, o8, hne, hb⟩ := hrel
        by_cases hjl : dk + j < 15
        · have hcs := HHCS.out j
          have hz := HHCH.out j
          have hst := HHST.out j
          have hri := fun W a c h => refinput_any W 1 a c [KB, C j] h (by have := HBZ.out; simp [totL]; omega) (by simp)
          have hrst := fun W => refstep_any W (k : Int) (C j) (by omega)
          rw [← hst] at hrst
          have hq : Rk ++ RCk (j + 1) = (Rk ++ RCk j) ++ [⟨(inputL 1 [KB, C j]).toArray⟩] := by rw [hcs, List.append_assoc]
          generalize C j = X at *
          generalize hX2 : C (j + 1) = X2 at *
          generalize (⟨(inputL 1 [KB, X]).toArray⟩ : ByteArray) = J at *
          generalize Rk ++ RCk j = Q at *
          have HX2 := Lib.hid hX2
          have HCSJ := Lib.hid hq
          have HRI := Lib.hid hri
          have HRST := Lib.hid hrst
          have O7 := Lib.hid o7
          have O8 := Lib.hid o8
          have HNE := Lib.hid hne
          have HB := Lib.hid hb
          have HMM := Lib.hid hm
          have HC1 : Hid (m + 1 ≤ maxLen) := Lib.hid (by unfold maxLen; omega)
          have HC2 : Hid ((m + 1) * 16 ≤ 140737488355328) := Lib.hid (by omega)
          clear hcs hst hri hrst hX2 o7 o8 hne hb hm hq
          go_wp2_with fail
          have c1 := HB.out.alloc HB.out.size (.cells #[.string KB, .string X] 9)
          refine (HRI.out _ _ _ (strs2t wr 9 KB X)).mono ?_
          rintro e w3 ⟨rfl, b3⟩
          have B3 := Lib.hid (c1.trans (b3.mono c1.size))
          have P7 := Lib.hid ((O7.out.alloc _).kept (Lib.grownBy_below (World.grownBy.refl _ none) b3) (by cases h : Value.ownBlock _ <;> simp))
          have P8 := Lib.hid ((O8.out.alloc _).kept (Lib.grownBy_below (World.grownBy.refl _ none) b3) (by cases h : Value.ownBlock _ <;> simp))
          have HC3 : Hid (∀ o : Obj, w1.heap.size ≤ (w3.alloc o).heap.size) := Lib.hid (fun o => by have := B3.out.size; simp; omega)
          clear c1 b3 O7 O8 HB HRI
          go_wp2_with (at_builtin; refine wpList_append_lies _ rfl _ _ 22 rfl w1.heap.size 9 i0 (.string ⟨#[]⟩) 1 16 Tryz.underlying22 hi0 hz0 hz1 hz2 rfl (by omega) _ m _ rfl (P8.out.alloc _) ⟨w3.heap.size, 0, none⟩ 1 1 [strV J] rfl rfl (World.news_of_block (cs := #[strV J]) (t := 9) (fr := (0, 0)) (heap_alloc_new w3 _)) (strV_one J) (by omega) HC1.out HC2.out (HC3.out _) (w3.heap.size + 1) (by simp) ?_)
          intro g4 cap4 w4 hown4 hg4 hat4 _
          have hap := own_apart (m := m + 1) (cap := cap4) P7.out HNE.out hg4 hat4
          have B4 := Lib.hid ((B3.out.alloc B3.out.size _).grown hg4 (HC3.out _) (fun q hq => (P8.out.lt q hq).1))
          have Q7 := Lib.hid hap.1
          have QN := Lib.hid hap.2
          have Q8 := Lib.hid hown4
          clear hap hown4 hg4 hat4 P7 P8 B3 HC1 HC2 HC3 HNE
          go_wp2_with fail
          refine (HRST.out _).mono ?_
          rintro e w5 ⟨rfl, b5⟩
          have B5 := Lib.hid (B4.out.trans (b5.mono B4.out.size))
          have R7 := Lib.hid (Q7.out.kept (Lib.grownBy_below (World.grownBy.refl _ none) b5) (by cases h : Value.ownBlock _ <;> simp))
          have R8 := Lib.hid (Q8.out.kept (Lib.grownBy_below (World.grownBy.refl _ none) b5) (by simp [Value.ownBlock]))
          clear b5 Q7 Q8 B4
          go_wp2
          go_roundw
          case rel => exact ⟨j + 1, m + 1, by omega, by go_num, by rw [HX2.out], by have := HMM.out; omega, R7.out, by rw [HCSJ.out, List.map_append]; exact R8.out, QN.out, B5.out⟩
          case measure => simp [intOf]; omega
        · obtain rfl : j = 15 - dk := by omega
          have hlj := HHCL.out (15 - dk)
          have htk := HHTK.out
          have hrs := HHRS.out
          generalize C (15 - dk) = X at *
          rw [← hrs] at o8
          have hml : m = Rk2.length := by rw [hrs, List.length_append, hlj, ← HNN.out]; exact hm
          have hne2 : u8.ownBlock = none ∨ u8.ownBlock ≠ u7.ownBlock := by
            rcases hne with h | h
            · rw [h]; cases h2 : u8.ownBlock
              · exact .inl rfl
              · exact .inr (by simp)
            · exact .inr (Ne.symm h)
          have O7 := Lib.hid o7
          have O8 := Lib.hid o8
          have HNE := Lib.hid hne2
          have HB := Lib.hid hb
          have HML := Lib.hid hml
          have HTKK := Lib.hid htk
          have hdk : dk ≤ 15 := by omega
          have hvi : dk + (15 - dk) = 15 := by omega
          have HC1 : Hid (k + 1 ≤ maxLen) := Lib.hid (by unfold maxLen; omega)
          have HC2 : Hid ((k + 1) * 16 ≤ 140737488355328) := Lib.hid (by omega)
          have HC3 : Hid (∀ o : Obj, w1.heap.size ≤ (wr.alloc o).heap.size) := Lib.hid (fun o => by have := HB.out.size; simp; omega)
          rw [hvi]
          clear hlj htk hrs o7 o8 hne hne2 hb hml hvi hm hj hjl
          rw [show ((15 : Nat) : Int) = 15 from rfl]
          go_wp2_with (at_builtin; refine wpList_append_lies _ rfl _ _ 22 rfl w1.heap.size 9 i0 (.string ⟨#[]⟩) 1 16 Tryz.underlying22 hi0 hz0 hz1 hz2 rfl (by omega) _ k _ rfl (O7.out.alloc _) ⟨wr.heap.size, 0, none⟩ 1 1 [strV X] rfl rfl (World.news_of_block (cs := #[strV X]) (t := 9) (fr := (0, 0)) (heap_alloc_new wr _)) (strV_one X) (by omega) HC1.out HC2.out (HC3.out _) (wr.heap.size + 1) (by simp) ?_)
          intro g4 cap4 w4 hown4 hg4 hat4 _
          have hap := own_apart (m := k + 1) (cap := cap4) O8.out HNE.out hg4 hat4
          have B4 := Lib.hid ((HB.out.alloc HB.out.size _).grown hg4 (HC3.out _) (fun q hq => (O7.out.lt q hq).1))
          have Q8 := Lib.hid hap.1
          have QN : Hid ((Value.slice (some ⟨g4, 0, none⟩) (k + 1) cap4).ownBlock = none ∨ (Value.slice (some ⟨g4, 0, none⟩) (k + 1) cap4).ownBlock ≠ u8.ownBlock) := Lib.hid (by
            rcases hap.2 with h | h
            · exact .inr (by rw [h]; simp [Value.ownBlock])
            · exact .inr (Ne.symm h))
          have Q7 := Lib.hid hown4
          clear hap hown4 hg4 hat4 O7 O8 HB HC1 HC2 HC3 HNE
          go_wp2
          go_roundw
          case rel => exact ⟨k + 1, m, by omega, by go_num, by rw [HRK2.out]; exact HML.out, by rw [HTKK.out, List.map_append, List.map_take]; exact Q7.out, by rw [HRK2.out]; exact Q8.out, QN.out, B4.out⟩
          case measure => simp [intOf]; omega
    · obtain rfl : k = 67 := by omega
      rw [List.take_of_length_le (by rw [HEL.out]; omega)] at hown7
      obtain ⟨a2, c2, rfl, hrow⟩ := own_strs hown7 HEL.out
      rw [HEL.out]
      have hrl := HRL.out 67
      have HR := Lib.hid hrow
      have O8 := Lib.hid hown8
      have HB := Lib.hid hb
      have HNN := Lib.hid hn
      have HC1 : Hid (n + 1 ≤ maxLen) := Lib.hid (by unfold maxLen; omega)
      have HC2 : Hid ((n + 1) * 16 ≤ 140737488355328) := Lib.hid (by omega)
      clear hown7 hown8 hrow hb hne hrl hn hlt hk
      rw [show ((67 : Nat) : Int) = 67 from rfl]
      go_wp2_with fail
      refine (HTG.out _ _ _ HR.out).mono ?_
      rintro e w2 ⟨rfl, b2⟩
      have B2 := Lib.hid (HB.out.trans (b2.mono HB.out.size))
      have R2 := Lib.hid (HR.out.below b2)
      have P8 := Lib.hid (O8.out.kept (Lib.grownBy_below (World.grownBy.refl _ none) b2) (by cases h : Value.ownBlock _ <;> simp))
      clear b2 HB HR O8 HTG
      go_wp2_with fail
      refine (HTI.out _ _ _ R2.out).mono ?_
      rintro e w3 ⟨rfl, b3⟩
      have B3 := Lib.hid (B2.out.trans (b3.mono B2.out.size))
      have Q8 := Lib.hid (P8.out.kept (Lib.grownBy_below (World.grownBy.refl _ none) b3) (by cases h : Value.ownBlock _ <;> simp))
      have HC3 : Hid (∀ o : Obj, w1.heap.size ≤ (w3.alloc o).heap.size) := Lib.hid (fun o => by have := B3.out.size; simp; omega)
      clear b3 B2 R2 P8 HTI
      go_wp2_with (at_builtin; refine wpList_append_lies _ rfl _ _ 22 rfl w1.heap.size 9 i0 (.string ⟨#[]⟩) 1 16 Tryz.underlying22 hi0 hz0 hz1 hz2 rfl (by omega) _ n _ rfl (Q8.out.alloc _) ⟨w3.heap.size, 0, none⟩ 1 1 [strV I3] rfl rfl (World.news_of_block (cs := #[strV I3]) (t := 9) (fr := (0, 0)) (heap_alloc_new w3 _)) (strV_one I3) (by omega) HC1.out HC2.out (HC3.out _) (w3.heap.size + 1) (by simp) ?_)
      intro g4 cap4 w4 hown4 hg4 _ _
      have B4 := Lib.hid (B1.out.trans (((B3.out.alloc B3.out.size _).grown hg4 (HC3.out _) (fun q hq => (Q8.out.lt q hq).1)).mono B1.out.size))
      have hroad : w4.ownsRow w.heap.size 9 1 (.slice (some ⟨g4, 0, none⟩) (n + 1) cap4) (n + 1) ((RR 67 ++ [I3]).map strV) := by
        rw [List.map_append]; exact own_base hown4 B1.out.size
      have HRD := Lib.hid hroad
      clear hown4 hg4 hroad
      go_wp2
      go_ret2
      exact ⟨⟨_, _, _, rfl, by rw [HNN.out], HRD.out⟩, B4.out⟩

set_option maxHeartbeats 1000000 in
theorem reffold_nil (w : World) (leaf : ByteArray) (a : Option Addr) (c : Nat) :
    Calls Tryz.prog 43 #[.string leaf, .int .i64 0, .slice a 0 c] w fun e w' => e = .returned (.tuple #[.string leaf, .slice none 0 0, .bool true]) ∧ w = w' := by
  go_enter Tryz.func43, Tryz.ntmps43
  go_wp2
  go_loopw [9, 10] (fun v i wr => i = .int .i64 0 ∧ v = .int .i64 1 ∧ wr = w) (fun _ _ _ => 0)
  case atStart => exact ⟨rfl, rfl, rfl⟩
  case round =>
    obtain ⟨rfl, rfl, rfl⟩ := hrel
    rename World => w
    go_wp2
    go_loopw [0, 1, 11, 12] (fun v0 vi v11 vc wr => v0 = .string leaf ∧ vi = .int .i64 0 ∧ v11 = .slice none 0 0 ∧ vc = .int .i64 0 ∧ wr = w) (fun _ _ _ _ _ => 0)
    case atStart => exact ⟨rfl, rfl, rfl, rfl, rfl⟩
    case round =>
      obtain ⟨rfl, rfl, rfl, rfl, rfl⟩ := hrel
      go_wp2
      go_ret3
      exact ⟨rfl, rfl⟩

theorem own_keep {w w' : World} {b : Nat} {t : TypeId} {size : Nat} {v : Value} {n : Nat} {l : List Value} (h : w.ownsRow b t size v n l) (hb : Below w.heap.size w w') : w'.ownsRow b t size v n l :=
  h.kept (Lib.grownBy_below (World.grownBy.refl _ none) hb) (by cases hv : Value.ownBlock _ <;> simp)

theorem refverify_no (w : World) (pub m s : ByteArray) (hs : ∀ h leaf, ¬ SigOk s h leaf) :
    Calls Tryz.prog 16 #[.string pub, .string m, .string s] w fun e w' => e = .returned (.tuple #[.bool false, .slice none 0 0]) ∧ w = w' := by
  have HL := Lib.hid (parts_no w s hs)
  have hnot : ∀ (x : Bool) (w : World), (Op.unary .not (.bool x)).run Tryz.prog w = .ok (.bool (!x)) w := fun _ _ => rfl
  clear hs
  go_enter Tryz.func16, Tryz.ntmps16
  go_wp2_with (go_at_call 41; refine HL.out.mono ?_; rintro e w1 ⟨rfl, rfl⟩)
  go_ret2
  exact ⟨rfl, rfl⟩

set_option maxHeartbeats 2000000 in
set_option maxRecDepth 100000 in
theorem refverify_yes (w : World) (pub m s : ByteArray) (h leaf : Nat) (hs : SigOk s h leaf) (hm : m.size ≤ 1000000) :
    Calls Tryz.prog 16 #[.string pub, .string m, .string s] w fun e w' => (∃ g n c, e = .returned (.tuple #[.bool ((sigTop m s h leaf).toList == pub.toList), .slice (some ⟨g, 0, none⟩) n c]) ∧ n = (roadV m (cutL s 2 67) leaf (cutL s 2146 h)).length ∧ StrRow w' (some ⟨g, 0, none⟩) (roadV m (cutL s 2 67) leaf (cutL s 2146 h))) ∧ Below w.heap.size w w' := by
  obtain ⟨i0, hi0, hz0, hz1, hz2⟩ := info_parts (show (Tryz.prog.info? 9).map (fun i => (i.zero, i.size, i.bytes)) = some (some (.string ⟨#[]⟩), 1, 16) by kernel_rfl)
  have hh := hs.hh
  have hz := hs.hz
  have HPT := Lib.hid (parts_yes w s h leaf hs)
  have htot : totL [m] ≤ 9000000 := by simp [totL]; omega
  have HTG := Lib.hid (fun W a c h2 => reftag_any W 6 a c [m] h2 htot (by simp))
  rw [← show msgB m = shaB ⟨(inputL 6 [m]).toArray⟩ from rfl] at HTG
  have v32 : All32 (cutL s 2 67) := cutL_32 s 2 67 (by omega)
  have p32 : All32 (cutL s 2146 h) := cutL_32 s 2146 h (by omega)
  have hvl : (cutL s 2 67).length = 67 := cutL_length _ _ _
  have hpl : (cutL s 2146 h).length = h := cutL_length _ _ _
  have HRC := Lib.hid (fun W g o c h1 h2 => refrecover_own W (msgB m) g o c (cutL s 2 67) (msgB_size m) h1 h2 hvl (fun i => by
    by_cases hi : i < 67
    · rw [v32 i (by rw [hvl]; exact hi)]; omega
    · rw [List.getD_eq_getElem?_getD, List.getElem?_eq_none (by rw [hvl]; omega)]; exact Nat.zero_le _))
  rw [show digL (msgB m).data.toList = msgD m from rfl, ← show endIn (msgD m) (cutL s 2 67) = ⟨(inputL 3 (walkL (cutL s 2 67) fun k => 15 - (msgD m).getD k 0)).toArray⟩ from rfl] at HRC
  have hfo := fun W a c h1 => reffold_yes W (recoverB (msgD m) (cutL s 2 67)) leaf a c (cutL s 2146 h) (by rw [hpl]; exact hh) (by rw [hpl]; exact hs.lt) (by rw [recoverB_size]; omega) h1 p32.small
  rw [show foldAt (recoverB (msgD m) (cutL s 2 67)) leaf (cutL s 2146 h) (cutL s 2146 h).length = topB (msgD m) (cutL s 2 67) leaf (cutL s 2146 h) from rfl] at hfo
  have hlf : h = 0 → leaf = 0 ∧ topB (msgD m) (cutL s 2 67) leaf (cutL s 2146 h) = recoverB (msgD m) (cutL s 2 67) := by
    rintro rfl
    have := hs.lt
    exact ⟨by omega, rfl⟩
  have HNM := Lib.hid (fun W => refnamed h (topB (msgD m) (cutL s 2 67) leaf (cutL s 2146 h)) hh (topB_size _ _ _ _) W)
  rw [← show sigTop m s h leaf = namedB h (topB (msgD m) (cutL s 2 67) leaf (cutL s 2146 h)) from rfl] at HNM
  have hrl := roadR_length (msgD m) (cutL s 2 67) 67
  have hrt := roadTo_length (recoverB (msgD m) (cutL s 2 67)) leaf (cutL s 2146 h) (cutL s 2146 h).length
  have hRV : roadV m (cutL s 2 67) leaf (cutL s 2146 h) = (roadR (msgD m) (cutL s 2 67) 67 ++ [endIn (msgD m) (cutL s 2 67)]) ++ roadTo (recoverB (msgD m) (cutL s 2 67)) leaf (cutL s 2146 h) (cutL s 2146 h).length ++ [nameIn (cutL s 2146 h).length (topB (msgD m) (cutL s 2 67) leaf (cutL s 2146 h)), msgIn m] := rfl
  have htp := topB_size (msgD m) (cutL s 2 67) leaf (cutL s 2146 h)
  rw [hpl] at hfo hrt hRV
  rw [hRV]
  have hrt0 : h = 0 → roadTo (recoverB (msgD m) (cutL s 2 67)) leaf (cutL s 2146 h) h = [] := by rintro rfl; rfl
  clear hs v32 p32 htot hRV
  generalize hTP : topB (msgD m) (cutL s 2 67) leaf (cutL s 2146 h) = TP at *
  generalize sigTop m s h leaf = TOP at *
  generalize recoverB (msgD m) (cutL s 2 67) = RB at *
  generalize roadR (msgD m) (cutL s 2 67) 67 = RR at *
  generalize endIn (msgD m) (cutL s 2 67) = EI at *
  generalize roadTo RB leaf (cutL s 2146 h) h = RT at *
  generalize cutL s 2 67 = V at *
  generalize cutL s 2146 h = P at *
  clear hTP
  have htot5 : totL [be 1 h, TP] ≤ 2147483647 := by simp [totL, be_size]; omega
  have HI5 := Lib.hid (fun W a c h2 => refinput_any W 5 a c [be 1 h, TP] h2 htot5 (by simp))
  rw [← show nameIn h TP = ⟨(inputL 5 [be 1 h, TP]).toArray⟩ from rfl] at HI5
  have htot6 : totL [m] ≤ 2147483647 := by simp [totL]; omega
  have HI6 := Lib.hid (fun W a c h2 => refinput_any W 6 a c [m] h2 htot6 (by simp))
  rw [← show msgIn m = ⟨(inputL 6 [m]).toArray⟩ from rfl] at HI6
  have hk := numOk_yes (k := 1) (n := (h : Int)) (by omega) (by simp; omega)
  have hB := numB_yes hk
  have hby := number1_any (h : Int)
  rw [hB, hk, Int.toNat_natCast] at hby
  have HBY := Lib.hid hby
  have HVL := Lib.hid hvl
  have HPL := Lib.hid hpl
  have HFO := Lib.hid hfo
  have HLF := Lib.hid hlf
  have HR0 := Lib.hid hrt0
  have HRL := Lib.hid hrl
  have HRT := Lib.hid hrt
  have hnot : ∀ (x : Bool) (w : World), (Op.unary .not (.bool x)).run Tryz.prog w = .ok (.bool (!x)) w := fun _ _ => rfl
  clear htot5 htot6 hk hB hby hvl hpl hfo hlf hrt0 hrl hrt htp hz hm
  generalize be 1 h = BH at *
  generalize nameIn h TP = NI at *
  generalize msgIn m = MI at *
  go_enter Tryz.func16, Tryz.ntmps16
  go_wp2_with (go_at_call 41; refine HPT.out.mono ?_; rintro e w1 ⟨⟨g, o, c, a2, c2, rfl, r1, p1, hg1⟩, b1⟩)
  have B1 := Lib.hid b1
  have R1 := Lib.hid r1
  have P1 := Lib.hid p1
  have c1 := (Below.refl w1.heap.size w1).alloc (Nat.le_refl _) (.cells #[.string m] 9)
  refine (HTG.out _ _ _ (strs1t _ _ _)).mono ?_
  rintro e w2 ⟨rfl, b2⟩
  have C2 := c1.trans (b2.mono c1.size)
  have B2 := Lib.hid (B1.out.trans (C2.mono B1.out.size))
  have HRC2 := Lib.hid (HRC.out w2 g o c (R1.out.below C2) (Nat.lt_of_lt_of_le hg1 C2.size))
  have P2 := Lib.hid (P1.out.below C2)
  clear b1 r1 p1 c1 b2 C2 HPT HTG HRC R1 P1
  go_wp2_with fail
  refine HRC2.out.mono ?_
  rintro e w3 ⟨⟨g3, n3, c3, rfl, hn3, o3⟩, b3⟩
  have B3 := Lib.hid (B2.out.trans (b3.mono B2.out.size))
  have P3 := Lib.hid (P2.out.below b3)
  have O3 := Lib.hid (own_base o3 B2.out.size)
  have HN3 := Lib.hid hn3
  clear b3 o3 hn3 HRC2 P2
  by_cases h0 : h = 0
  · subst h0
    obtain ⟨hl0, hTP⟩ := HLF.out rfl
    have hRT := HR0.out rfl
    have HN6 := Lib.hid (show ((RR ++ [EI]) ++ RT).length = n3 by rw [hRT, HN3.out]; simp)
    rw [show ((0 : Nat) : Int) = 0 from rfl] at HBY HNM
    have hO := O3.out
    rw [show (RR ++ [EI]) = (RR ++ [EI]) ++ RT by rw [hRT, List.append_nil]] at hO
    have O3b := Lib.hid hO
    have hl3 := HN6.out
    have hr3 := HRL.out
    have h3z : n3 ≤ 2000 := by have := HN3.out; omega
    have HC1 : Hid (n3 + 2 ≤ maxLen) := Lib.hid (by unfold maxLen; omega)
    have HC2 : Hid ((n3 + 2) * 16 ≤ 140737488355328) := Lib.hid (by omega)
    subst hTP hl0
    clear hO hRT O3 HFO HLF HR0 HRL HRT hl3 hr3 h3z HN3
    rw [show ((0 : Nat) : Int) = 0 from rfl]
    go_wp2_with (first | (go_at_call 43; refine (reffold_nil w3 _ a2 c2).mono ?_; rintro e w4 ⟨rfl, rfl⟩) | (go_at_call 33; refine (HBY.out _).mono ?_; rintro e w6 ⟨rfl, b6⟩; have B6 := Lib.hid (B3.out.trans (b6.mono B3.out.size)); have O6 := Lib.hid (own_keep O3b.out b6); clear b6) | (at_builtin; refine wpList_append_own_none rfl _ _ 22 rfl w.heap.size 9 i0 1 Tryz.underlying22 hi0 _ n3 _ rfl O6.out rfl ?_))
    -- the two inputs more

    have c7 := (Below.refl w6.heap.size w6).alloc (Nat.le_refl _) (.cells #[.string BH, .string TP] 9)
    refine (HI5.out _ _ _ (strs2t _ _ _ _)).mono ?_
    rintro e w7 ⟨rfl, b7⟩
    have C7 := c7.trans (b7.mono c7.size)
    have B7 := Lib.hid (B6.out.trans (C7.mono B6.out.size))
    have O7 := Lib.hid (own_keep O6.out C7)
    clear c7 b7 C7 O6 HI5
    go_wp2_with fail
    have c8 := (Below.refl w7.heap.size w7).alloc (Nat.le_refl _) (.cells #[.string m] 9)
    refine (HI6.out _ _ _ (strs1t _ _ _)).mono ?_
    rintro e w8 ⟨rfl, b8⟩
    have C8 := c8.trans (b8.mono c8.size)
    have B8 := Lib.hid (B7.out.trans (C8.mono B7.out.size))
    have O8 := Lib.hid (own_keep O7.out C8)
    clear c8 b8 C8 O7 HI6
    have HC4 : Hid (∀ o : Obj, w.heap.size ≤ (w8.alloc o).heap.size) := Lib.hid (fun o => by have := B8.out.size; simp; omega)
    go_wp2_with (at_builtin; refine wpList_append_lies _ rfl _ _ 22 rfl w.heap.size 9 i0 (.string ⟨#[]⟩) 1 16 Tryz.underlying22 hi0 hz0 hz1 hz2 rfl (by omega) _ n3 _ rfl (O8.out.alloc _) ⟨w8.heap.size, 0, none⟩ 2 2 [strV NI, strV MI] rfl rfl (World.news_of_block (cs := #[strV NI, strV MI]) (t := 9) (fr := (0, 0)) (heap_alloc_new w8 _)) (strs_one [NI, MI]) (by omega) HC1.out HC2.out (HC4.out _) (w8.heap.size + 1) (by simp) ?_)
    intro g9 cap9 w9 hown9 hg9 _ _
    have B9 := Lib.hid ((B8.out.alloc B8.out.size _).grown hg9 (HC4.out _) (fun q hq => (O8.out.lt q hq).1))
    have hroad : StrRow w9 (some ⟨g9, 0, none⟩) (((RR ++ [EI]) ++ RT) ++ [NI, MI]) := by
      have h5 : w9.ownsRow w.heap.size 9 1 (.slice (some ⟨g9, 0, none⟩) (n3 + 2) cap9) (n3 + 2) ((((RR ++ [EI]) ++ RT) ++ [NI, MI]).map strV) := by
        have h9 := hown9
        simp only [List.map_append, List.map_cons, List.map_nil, List.append_assoc, List.cons_append, List.nil_append] at h9 ⊢
        exact h9
      obtain ⟨a5, c5, he, hr⟩ := own_strs h5 (by rw [List.length_append, HN6.out]; rfl)
      have : a5 = some ⟨g9, 0, none⟩ := by simp at he; exact he.1.symm
      rw [← this]; exact hr
    have HRD := Lib.hid hroad
    clear hown9 hg9 hroad O8
    go_wp2_with fail
    refine (HNM.out w9).mono ?_
    rintro e w10 ⟨rfl, b10⟩
    have B10 := Lib.hid (B9.out.trans (b10.mono B9.out.size))
    have R10 := Lib.hid (HRD.out.below b10)
    clear b10
    go_wp2
    go_ret2
    exact ⟨⟨g9, _, cap9, rfl, by rw [List.length_append, HN6.out]; rfl, R10.out⟩, B10.out⟩
  · have hF := HFO.out w3 a2 c2 P3.out
    have hr3 := HRL.out
    have hn3 := HN3.out
    have h3z : n3 ≤ 2000 := by omega
    have HC5 : Hid (n3 + h ≤ maxLen) := Lib.hid (by unfold maxLen; omega)
    have HC6 : Hid ((n3 + h) * 16 ≤ 140737488355328) := Lib.hid (by omega)
    have HC1 : Hid (n3 + h + 2 ≤ maxLen) := Lib.hid (by unfold maxLen; omega)
    have HC2 : Hid ((n3 + h + 2) * 16 ≤ 140737488355328) := Lib.hid (by omega)
    have HN6 := Lib.hid (show ((RR ++ [EI]) ++ RT).length = n3 + h by rw [List.length_append, HRT.out, hn3, List.length_append]; rfl)
    have HF3 := Lib.hid hF
    have hpos : 0 < h := by omega
    clear hF hr3 hn3 h3z h0 HFO HLF HR0 HRL
    go_wp2_with fail
    refine HF3.out.mono ?_
    rintro e w4 ⟨⟨mv, rfl, om⟩, b4⟩
    obtain ⟨ma, mc, rfl, mr⟩ := own_strs om HRT.out
    rw [HRT.out]
    obtain ⟨mb, mo, rfl, hmb⟩ := strRow_some mr (by rw [HRT.out]; exact hpos)
    have B4 := Lib.hid (B3.out.trans (b4.mono B3.out.size))
    have O4 := Lib.hid (own_keep O3.out b4)
    have M4 := Lib.hid mr
    clear om mr b4 HF3 O3 hmb
    go_wp2_with fail
    refine (HBY.out _).mono ?_
    rintro e w5 ⟨rfl, b5⟩
    have B5 := Lib.hid (B4.out.trans (b5.mono B4.out.size))
    have O5 := Lib.hid (own_keep O4.out b5)
    have NW := Lib.hid (strRow_news (M4.out.below b5))
    have hs5 : w.heap.size ≤ w5.heap.size := B5.out.size
    have HLT := Lib.hid (show (RT.map strV).length = h * 1 by rw [List.length_map, HRT.out, Nat.mul_one])
    clear b5 O4 M4
    go_wp2_with (at_builtin; refine wpList_append_lies _ rfl _ _ 22 rfl w.heap.size 9 i0 (.string ⟨#[]⟩) 1 16 Tryz.underlying22 hi0 hz0 hz1 hz2 rfl (by omega) _ n3 _ rfl O5.out ⟨mb, mo, none⟩ h _ (RT.map strV) rfl HLT.out NW.out (strs_one RT) hpos HC5.out HC6.out hs5 w5.heap.size rfl ?_)
    intro g6 cap6 w6 hown6 hg6 _ _
    have B6 := Lib.hid (B5.out.grown hg6 hs5 (fun q hq => (O5.out.lt q hq).1))
    have O6 := Lib.hid (show w6.ownsRow w.heap.size 9 1 (.slice (some ⟨g6, 0, none⟩) (n3 + h) cap6) (n3 + h) (((RR ++ [EI]) ++ RT).map strV) by
      have h9 := hown6
      simp only [List.map_append, List.map_cons, List.append_assoc, List.cons_append, List.nil_append] at h9 ⊢
      exact h9)
    clear hown6 hg6 O5 NW
    go_wp2_with fail
    -- the two inputs more

    have c7 := (Below.refl w6.heap.size w6).alloc (Nat.le_refl _) (.cells #[.string BH, .string TP] 9)
    refine (HI5.out _ _ _ (strs2t _ _ _ _)).mono ?_
    rintro e w7 ⟨rfl, b7⟩
    have C7 := c7.trans (b7.mono c7.size)
    have B7 := Lib.hid (B6.out.trans (C7.mono B6.out.size))
    have O7 := Lib.hid (own_keep O6.out C7)
    clear c7 b7 C7 O6 HI5
    go_wp2_with fail
    have c8 := (Below.refl w7.heap.size w7).alloc (Nat.le_refl _) (.cells #[.string m] 9)
    refine (HI6.out _ _ _ (strs1t _ _ _)).mono ?_
    rintro e w8 ⟨rfl, b8⟩
    have C8 := c8.trans (b8.mono c8.size)
    have B8 := Lib.hid (B7.out.trans (C8.mono B7.out.size))
    have O8 := Lib.hid (own_keep O7.out C8)
    clear c8 b8 C8 O7 HI6
    have HC4 : Hid (∀ o : Obj, w.heap.size ≤ (w8.alloc o).heap.size) := Lib.hid (fun o => by have := B8.out.size; simp; omega)
    go_wp2_with (at_builtin; refine wpList_append_lies _ rfl _ _ 22 rfl w.heap.size 9 i0 (.string ⟨#[]⟩) 1 16 Tryz.underlying22 hi0 hz0 hz1 hz2 rfl (by omega) _ (n3 + h) _ rfl (O8.out.alloc _) ⟨w8.heap.size, 0, none⟩ 2 2 [strV NI, strV MI] rfl rfl (World.news_of_block (cs := #[strV NI, strV MI]) (t := 9) (fr := (0, 0)) (heap_alloc_new w8 _)) (strs_one [NI, MI]) (by omega) HC1.out HC2.out (HC4.out _) (w8.heap.size + 1) (by simp) ?_)
    intro g9 cap9 w9 hown9 hg9 _ _
    have B9 := Lib.hid ((B8.out.alloc B8.out.size _).grown hg9 (HC4.out _) (fun q hq => (O8.out.lt q hq).1))
    have hroad : StrRow w9 (some ⟨g9, 0, none⟩) (((RR ++ [EI]) ++ RT) ++ [NI, MI]) := by
      have h5 : w9.ownsRow w.heap.size 9 1 (.slice (some ⟨g9, 0, none⟩) ((n3 + h) + 2) cap9) ((n3 + h) + 2) ((((RR ++ [EI]) ++ RT) ++ [NI, MI]).map strV) := by
        have h9 := hown9
        simp only [List.map_append, List.map_cons, List.map_nil, List.append_assoc, List.cons_append, List.nil_append] at h9 ⊢
        exact h9
      obtain ⟨a5, c5, he, hr⟩ := own_strs h5 (by rw [List.length_append, HN6.out]; rfl)
      have : a5 = some ⟨g9, 0, none⟩ := by simp at he; exact he.1.symm
      rw [← this]; exact hr
    have HRD := Lib.hid hroad
    clear hown9 hg9 hroad O8
    go_wp2_with fail
    refine (HNM.out w9).mono ?_
    rintro e w10 ⟨rfl, b10⟩
    have B10 := Lib.hid (B9.out.trans (b10.mono B9.out.size))
    have R10 := Lib.hid (HRD.out.below b10)
    clear b10
    go_wp2
    go_ret2
    exact ⟨⟨g9, _, cap9, rfl, by rw [List.length_append, HN6.out]; rfl, R10.out⟩, B10.out⟩
end Go.Proofs.YtggfmnmopfdiaaaGreatDoor
