/-
  P3.4: a signature of which one value is another one leads to another public; or else two unlike texts that were summed on the two ways have one digest: for every text as a seed, every leaf, every text, made a digest, every byte and every text.
  The tables of the program start as its text lays them (the card ties them).
-/
import Derived.Test.YtkpcobahkpiogaaDoorLaid
import Derived.Test.YtkpcobahkpiogaaDoorW8
import Derived.ProofKit
import Derived.OpenShut
import Derived.ShutString
import Derived.ChangeOld
import Derived.SevenTiedAt
import Derived.SliceStrings
namespace Go.Proofs.YtkpcobahkpiogaaDoor.WotsTurned
open Go.ChangeShapes Go.WideShapes Go.ChangeAt Go.RowKit Go.Pal
open Go.ChangeMaps (open_string shut_string)
set_option linter.unusedVariables false


theorem mem_at (l m : List ByteArray) (a b : ByteArray) (ha : a ∈ l) (hb : b ∈ m) : ∃ i j, j < i ∧ i < (l ++ m).length ∧ (l ++ m).getD i ByteArray.empty = b ∧ (l ++ m).getD j ByteArray.empty = a := by
  obtain ⟨j, hj, rfl⟩ := List.getElem_of_mem ha
  obtain ⟨i, hi, rfl⟩ := List.getElem_of_mem hb
  refine ⟨l.length + i, j, by omega, by rw [List.length_append]; omega, ?_, ?_⟩
  · rw [List.getD_eq_getElem?_getD, List.getElem?_append_right (by omega), show l.length + i - l.length = i by omega, List.getElem?_eq_getElem hi]; rfl
  · rw [List.getD_eq_getElem?_getD, List.getElem?_append_left hj, List.getElem?_eq_getElem hj]; rfl
theorem road_le (dl : List Nat) (vs : List ByteArray) (hlen : vs.length = 67) (hs : ∀ i, (vs.getD i ByteArray.empty).size ≤ 1000) : ∀ p ∈ roadR dl vs 67 ++ [⟨(inputL 3 (walkL vs fun k => 15 - dl.getD k 0)).toArray⟩], p.size ≤ 9000000 := by
  intro p hp
  rcases List.mem_append.1 hp with h | h
  · obtain ⟨k, _, h2⟩ := List.mem_flatMap.1 h
    obtain ⟨j, _, rfl⟩ := List.mem_map.1 h2
    have := chainB_le (k : Int) (vs.getD k ByteArray.empty) 1000 (by omega) (hs k) j
    show (inputL 1 _).toArray.size ≤ _
    rw [List.size_toArray, inputL_length]
    simp only [totL, List.map_cons, List.map_nil, List.sum_cons, List.sum_nil, be_size]
    omega
  · rw [List.mem_singleton.1 h]
    show (inputL 3 _).toArray.size ≤ _
    rw [List.size_toArray, inputL_length]
    have := totL_le (walkL vs fun k => 15 - dl.getD k 0) 1000 (walkL_le _ _ 1000 (by omega) hs)
    rw [walkL_length, hlen] at this; omega
theorem getD_all (l : List ByteArray) (B : Nat) (h : ∀ p ∈ l, p.size ≤ B) (i : Nat) : (l.getD i ByteArray.empty).size ≤ B := by
  rw [List.getD_eq_getElem?_getD]
  cases hk : l[i]? with
  | none => exact Nat.zero_le _
  | some n => exact h n (List.mem_of_getElem? hk)

set_option maxHeartbeats 4000000 in
set_option maxRecDepth 100000 in
theorem walk (s : ByteArray) (leaf : Int) (d : ByteArray) (kk : Int) (x : ByteArray) (hs : s.size ≤ maxLen) (wl : (Lit.int .u16 leaf).wf = true) (hd : d.size ≤ maxLen) (wk : (Lit.int .u8 kk).wf = true) (hx : x.size ≤ maxLen) (w : World) (ht : Tabs w) :
    Calls Tryd.prog 14 #[.string s, .int .u16 leaf, .string d, .int .u8 kk, .string x] w fun e w' => e = .returned (.bool true) ∧ Below w.heap.size w w' := by
  obtain ⟨i0, hi0, hz0, hz1, hz2⟩ := info_parts (show (Tryd.prog.info? 9).map (fun i => (i.zero, i.size, i.bytes)) = some (some (.string ⟨#[]⟩), 1, 16) by kernel_rfl)
  have bl := bounds_u16 wl
  have bk := bounds_u8 wk
  obtain ⟨L, rfl⟩ : ∃ L : Nat, leaf = L := ⟨leaf.toNat, by omega⟩
  obtain ⟨K0, rfl⟩ : ∃ K0 : Nat, kk = K0 := ⟨kk.toNat, by omega⟩
  have hL : L ≤ 65535 := by omega
  have HT := Lib.hid ht
  unfold maxLen at hs hx
  have HF := Lib.hid (fun W => fit3 d hd W)
  have HI0 := Lib.hid hi0
  have HZ0 := Lib.hid hz0
  have HZ1 := Lib.hid hz1
  have HZ2 := Lib.hid hz2
  clear ht wl hd bl wk hi0 hz0 hz1 hz2
  by_cases h : 300 < s.size
  · have hdec : decide (300 < (s.size : Int)) = true := by simp; omega
    go_enter Tryd.func14, Tryd.ntmps14
    go_wp2_with fail
    refine (long3 s _).mono ?_
    rintro e w1 ⟨rfl, rfl⟩
    go_wp2_with fail
    refine (awake3_any _ HT.out).mono ?_
    rintro e w4 ⟨rfl, b4⟩
    go_wp2
    go_ret
    exact ⟨rfl, b4⟩
  have hdec : decide (300 < (s.size : Int)) = false := by simp; omega
  by_cases h2 : 300 < x.size
  · have hdec2 : decide (300 < (x.size : Int)) = true := by simp; omega
    go_enter Tryd.func14, Tryd.ntmps14
    go_wp2_with fail
    refine (long3 s _).mono ?_
    rintro e w1 ⟨rfl, rfl⟩
    go_wp2_with fail
    refine (long3 x _).mono ?_
    rintro e w1 ⟨rfl, rfl⟩
    go_wp2_with fail
    refine (awake3_any _ HT.out).mono ?_
    rintro e w4 ⟨rfl, b4⟩
    go_wp2
    go_ret
    exact ⟨rfl, b4⟩
  have hdec2 : decide (300 < (x.size : Int)) = false := by simp; omega
  have sA := fitB_size d
  have hk3 : K0 % 67 < 67 := by omega
  obtain ⟨K, hK⟩ : ∃ K, K = K0 % 67 := ⟨_, rfl⟩
  rw [← hK] at hk3
  have hKi : (K0 : Int) % 67 = (K : Int) := by omega
  have HSG := Lib.hid (fun W hT => sign_yes W s L (fitB d) hL (by omega) sA hT)
  have hsl : ∀ i, ((signL s L (digL (fitB d).data.toList)).getD i ByteArray.empty).size ≤ 32 := walkL_le (secretsL s L) _ 32 (by omega) (secretsL_le s L)
  have hln : (signL s L (digL (fitB d).data.toList)).length = 67 := by rw [signL, walkL_length, secretsL_length]
  generalize signL s L (digL (fitB d).data.toList) = SL at *
  have hsl1 : ∀ i, (SL.getD i ByteArray.empty).size ≤ 1000 := fun i => Nat.le_trans (hsl i) (by omega)
  have hslS : SmallL SL := fun i => Nat.le_trans (hsl i) (by omega)
  have hmsS : SmallL (SL.set K x) := small_set SL K x hslS (by omega)
  have hms1 : ∀ i, ((SL.set K x).getD i ByteArray.empty).size ≤ 1000 := by
    intro i
    by_cases hi : i = K
    · subst hi
      rw [List.getD_eq_getElem?_getD, List.getElem?_set_self (by omega)]; show x.size ≤ _; omega
    · rw [List.getD_eq_getElem?_getD, List.getElem?_set_ne (Ne.symm hi), ← List.getD_eq_getElem?_getD]; exact hsl1 i
  have hlm : (SL.set K x).length = 67 := by rw [List.length_set, hln]
  have HR1 := Lib.hid (fun W b hv hb hT => recover_yes W (fitB d) b 0 67 SL sA hv hb hln hslS hT)
  have HR2 := Lib.hid (fun W b c hv hb hT => recover_yes W (fitB d) b 0 c (SL.set K x) sA hv hb hlm hmsS hT)
  have HQ1 := Lib.hid (fun W b hv hb => refrecover W (fitB d) b 0 67 SL sA hv hb hln hsl1)
  have HQ2 := Lib.hid (fun W b c hv hb => refrecover W (fitB d) b 0 c (SL.set K x) sA hv hb hlm hms1)
  have hcl := turn_clash (digL (fitB d).data.toList) SL K x hk3 hln hslS (by omega)
  have hz1 := road_le (digL (fitB d).data.toList) SL hln hsl1
  have hz2 := road_le (digL (fitB d).data.toList) (SL.set K x) hlm hms1
  have hl1 := roadR_length (digL (fitB d).data.toList) SL 67
  have hl2 := roadR_length (digL (fitB d).data.toList) (SL.set K x) 67
  have hcase : x = SL.getD K ByteArray.empty ∨ (x ≠ SL.getD K ByteArray.empty ∧ recoverB (digL (fitB d).data.toList) SL ≠ recoverB (digL (fitB d).data.toList) (SL.set K x)) ∨ (x ≠ SL.getD K ByteArray.empty ∧ recoverB (digL (fitB d).data.toList) SL = recoverB (digL (fitB d).data.toList) (SL.set K x)) := by
    by_cases h1 : x = SL.getD K ByteArray.empty
    · exact .inl h1
    · by_cases h2 : recoverB (digL (fitB d).data.toList) SL = recoverB (digL (fitB d).data.toList) (SL.set K x)
      · exact .inr (.inr ⟨h1, h2⟩)
      · exact .inr (.inl ⟨h1, h2⟩)
  have hset : x = SL.getD K ByteArray.empty → SL.set K x = SL := by
    intro e
    apply List.ext_getElem?
    intro i
    by_cases hi : i = K
    · subst hi
      rw [List.getElem?_set_self (by omega), e, List.getD_eq_getElem?_getD, List.getElem?_eq_getElem (by omega)]; rfl
    · rw [List.getElem?_set_ne (Ne.symm hi)]
  have HSET := Lib.hid hset
  have HCL := Lib.hid hcl
  have HLN := Lib.hid hln
  generalize hP1 : recoverB (digL (fitB d).data.toList) SL = P1 at *
  generalize hP2 : recoverB (digL (fitB d).data.toList) (SL.set K x) = P2 at *
  have HP1 := Lib.hid hP1
  have HP2 := Lib.hid hP2
  generalize fitB d = D at *
  generalize digL D.data.toList = dl at *
  have HZA := Lib.hid hz1
  have HZB := Lib.hid hz2
  have HL1 := Lib.hid hl1
  have HL2 := Lib.hid hl2
  generalize hA1 : roadR dl SL 67 ++ [⟨(inputL 3 (walkL SL fun k => 15 - dl.getD k 0)).toArray⟩] = A1 at *
  generalize hA2 : roadR dl (SL.set K x) 67 ++ [⟨(inputL 3 (walkL (SL.set K x) fun k => 15 - dl.getD k 0)).toArray⟩] = A2 at *
  have hn1 : A1.length = (roadR dl SL 67).length + 1 := by rw [← hA1]; simp
  have hn2 : A2.length = (roadR dl (SL.set K x) 67).length + 1 := by rw [← hA2]; simp
  rw [← hn1] at HQ1
  rw [← hn2] at HQ2
  have hb1 : A1.length ≤ 1006 ∧ 0 < A1.length := by omega
  have hb2 : A2.length ≤ 1006 ∧ 0 < A2.length := by omega
  clear hset hcl hln hP1 hP2 hz1 hz2 hl1 hl2 hA1 hA2 hn1 hn2 sA hsl hsl1 hslS hmsS hms1 hlm h h2 bk hK HL1 HL2
  go_enter Tryd.func14, Tryd.ntmps14
  go_wp2_with fail
  refine (long3 s _).mono ?_
  rintro e w1 ⟨rfl, rfl⟩
  go_wp2_with fail
  refine (long3 x _).mono ?_
  rintro e w1 ⟨rfl, rfl⟩
  go_wp2_with fail
  refine (awake3_any _ HT.out).mono ?_
  rintro e w2 ⟨rfl, b2⟩
  have C2 := Lib.hid b2
  clear b2
  go_wp2_with fail
  refine (HF.out _).mono ?_
  rintro e w3 ⟨rfl, b3⟩
  have C3 := Lib.hid (C2.out.trans (b3.mono C2.out.size))
  clear b3 C2
  go_wp2_with fail
  refine (HSG.out _ (HT.out.below C3.out)).mono ?_
  rintro e w4 ⟨⟨g, rfl, r4, z4⟩, b4⟩
  have C4 := Lib.hid (C3.out.trans (b4.mono C3.out.size))
  have R4 := Lib.hid r4
  have Z4 := Lib.hid z4
  have HAP := Lib.hid (World.ownsRow_lit (base := w4.heap.size) (e := 9) (size := 1) w4 #[] 0 (Nat.le_refl _) (by unfold maxLen; omega) rfl)
  have HC1 : Hid (0 + 67 ≤ maxLen) := Lib.hid (by unfold maxLen; omega)
  have HNW := Lib.hid (strRow_news (strRow_alloc r4 (.cells #[] 9)))
  have HSZ : Hid (w4.heap.size ≤ (w4.alloc (.cells #[] 9)).heap.size) := Lib.hid (by simp)
  have HLM : Hid ((SL.map strV).length = 67 * 1) := Lib.hid (by rw [List.length_map, HLN.out])
  clear b4 C3 r4 z4 HSG
  go_wp2_with (at_builtin; refine wpList_append_lies _ rfl _ _ 25 rfl w4.heap.size 9 i0 (.string ⟨#[]⟩) 1 16 Tryd.underlying25 HI0.out HZ0.out HZ1.out HZ2.out rfl (by omega) _ 0 [] rfl HAP.out ⟨g, 0, none⟩ 67 _ (SL.map strV) rfl HLM.out HNW.out (strs_one SL) (by omega) HC1.out (by omega) HSZ.out (w4.heap.size + 1) (by simp) ?_)
  intro gm cm w5 hown5 hg5 _ hlt5
  have b5 := ((Below.refl w4.heap.size w4).alloc (Nat.le_refl _) (.cells #[] 9)).grown hg5 HSZ.out (fun j hj => by cases hj; exact Nat.le_refl _)
  have hgb : w4.heap.size ≤ gm := (hown5.lt gm rfl).1
  have hcg : w5.cell? ⟨gm, K, none⟩ = some (.string (SL.getD K ByteArray.empty)) := (hown5.cellAt K (by omega)).trans (strs_get? SL K (by rw [HLN.out]; exact hk3))
  have hfg := hown5.frozenAt K
  have o6 := (hown5.stored K (.string x)).1
  rw [show (SL.map strV).set K (Value.string x) = (SL.set K x).map strV from (List.map_set ..).symm] at o6
  have b6 := b5.setCell (p := ⟨gm, K, none⟩) hgb (.string x)
  have hz6 : gm < (w5.setCell ⟨gm, K, none⟩ (.string x)).heap.size := (o6.lt gm rfl).2
  have HO6 := Lib.hid o6
  have B6 := Lib.hid b6
  have Z6 := Lib.hid hz6
  clear hown5 hg5 b5 o6 b6 hz6 HAP HNW HSZ HLM HC1 hlt5
  go_wp2_with fail
  clear hcg hfg
  generalize w5.setCell ⟨gm, K, none⟩ (.string x) = w6 at *
  have C6 := Lib.hid (C4.out.trans (B6.out.mono C4.out.size))
  have R6 := Lib.hid (R4.out.below B6.out)
  have M6 : Hid (StrRow w6 (some ⟨gm, 0, none⟩) (SL.set K x)) := Lib.hid (by
    obtain ⟨a5, c5, he5, hr5⟩ := own_strs HO6.out (by rw [List.length_set, HLN.out])
    have : a5 = some ⟨gm, 0, none⟩ := by simp at he5; exact he5.1.symm
    rw [← this]; exact hr5)
  have Zg6 : Hid (g < w6.heap.size) := Lib.hid (Nat.lt_of_lt_of_le Z4.out B6.out.size)
  have Zm6 := Lib.hid Z6.out
  clear C4 R4 HO6 B6 Z4 Z6
  refine (HF.out _).mono ?_
  rintro e w7 ⟨rfl, b7⟩
  have C7 := Lib.hid (C6.out.trans (b7.mono C6.out.size))
  have R7 := Lib.hid (R6.out.below b7)
  have M7 := Lib.hid (M6.out.below b7)
  have Zg7 : Hid (g < w7.heap.size) := Lib.hid (Nat.lt_of_lt_of_le Zg6.out b7.size)
  have Zm7 : Hid (gm < w7.heap.size) := Lib.hid (Nat.lt_of_lt_of_le Zm6.out b7.size)
  clear b7 C6 R6 M6 Zg6 Zm6
  go_wp2_with fail
  refine (HR1.out _ _ R7.out Zg7.out (HT.out.below C7.out)).mono ?_
  rintro e w8 ⟨rfl, b8⟩
  have C8 := Lib.hid (C7.out.trans (b8.mono C7.out.size))
  have R8 := Lib.hid (R7.out.below b8)
  have M8 := Lib.hid (M7.out.below b8)
  have Zg8 : Hid (g < w8.heap.size) := Lib.hid (Nat.lt_of_lt_of_le Zg7.out b8.size)
  have Zm8 : Hid (gm < w8.heap.size) := Lib.hid (Nat.lt_of_lt_of_le Zm7.out b8.size)
  clear b8 C7 R7 M7 Zg7 Zm7
  go_wp2_with fail
  refine (HF.out _).mono ?_
  rintro e w9 ⟨rfl, b9⟩
  have C9 := Lib.hid (C8.out.trans (b9.mono C8.out.size))
  have R9 := Lib.hid (R8.out.below b9)
  have M9 := Lib.hid (M8.out.below b9)
  have Zg9 : Hid (g < w9.heap.size) := Lib.hid (Nat.lt_of_lt_of_le Zg8.out b9.size)
  have Zm9 : Hid (gm < w9.heap.size) := Lib.hid (Nat.lt_of_lt_of_le Zm8.out b9.size)
  clear b9 C8 R8 M8 Zg8 Zm8
  go_wp2_with fail
  refine (HR2.out _ _ _ M9.out Zm9.out (HT.out.below C9.out)).mono ?_
  rintro e w10 ⟨rfl, b10⟩
  have C10 := Lib.hid (C9.out.trans (b10.mono C9.out.size))
  have R10 := Lib.hid (R9.out.below b10)
  have M10 := Lib.hid (M9.out.below b10)
  have Zg10 : Hid (g < w10.heap.size) := Lib.hid (Nat.lt_of_lt_of_le Zg9.out b10.size)
  have Zm10 : Hid (gm < w10.heap.size) := Lib.hid (Nat.lt_of_lt_of_le Zm9.out b10.size)
  clear b10 C9 R9 M9 Zg9 Zm9
  have ck := strRow_cell R10.out K (by rw [HLN.out]; exact hk3)
  rw [Nat.zero_add] at ck
  generalize SL.getD K ByteArray.empty = V at *
  rcases hcase with hxe | ⟨hne, hf⟩ | ⟨hne, hf⟩
  · have hp : P2 = P1 := by rw [← HP1.out, ← HP2.out, HSET.out hxe]
    subst hp
    rw [← hxe] at ck
    clear hxe
    go_wp2
    go_ret
    exact ⟨rfl, C10.out⟩
  · have n1 := beqF hne
    have n2 := beqF hf
    clear hne hf
    go_wp2
    go_ret
    exact ⟨rfl, C10.out⟩
  · have n1 := beqF hne
    have hcl := HCL.out (Ne.symm hne) hf
    have HCC := Lib.hid hcl
    subst hf
    clear hne hcl
    go_wp2_with fail
    refine (HF.out _).mono ?_
    rintro e w11 ⟨rfl, b11⟩
    have C11 := Lib.hid (C10.out.trans (b11.mono C10.out.size))
    have R11 := Lib.hid (R10.out.below b11)
    have M11 := Lib.hid (M10.out.below b11)
    have Zg11 : Hid (g < w11.heap.size) := Lib.hid (Nat.lt_of_lt_of_le Zg10.out b11.size)
    have Zm11 : Hid (gm < w11.heap.size) := Lib.hid (Nat.lt_of_lt_of_le Zm10.out b11.size)
    clear b11 C10 R10 M10 Zg10 Zm10
    clear ck n1
    go_wp2_with fail
    refine (HQ1.out _ _ R11.out Zg11.out).mono ?_
    rintro e w12 ⟨⟨a1, m1, c1, rfl, rfl, q1⟩, b12⟩
    have C12 := Lib.hid (C11.out.trans (b12.mono C11.out.size))
    have R12 := Lib.hid (R11.out.below b12)
    have M12 := Lib.hid (M11.out.below b12)
    have Zg12 : Hid (g < w12.heap.size) := Lib.hid (Nat.lt_of_lt_of_le Zg11.out b12.size)
    have Zm12 : Hid (gm < w12.heap.size) := Lib.hid (Nat.lt_of_lt_of_le Zm11.out b12.size)
    have Q12 := Lib.hid q1
    clear q1 b12 C11 R11 M11 Zg11 Zm11
    go_wp2_with fail
    refine (HF.out _).mono ?_
    rintro e w13 ⟨rfl, b13⟩
    have C13 := Lib.hid (C12.out.trans (b13.mono C12.out.size))
    have R13 := Lib.hid (R12.out.below b13)
    have M13 := Lib.hid (M12.out.below b13)
    have Zg13 : Hid (g < w13.heap.size) := Lib.hid (Nat.lt_of_lt_of_le Zg12.out b13.size)
    have Zm13 : Hid (gm < w13.heap.size) := Lib.hid (Nat.lt_of_lt_of_le Zm12.out b13.size)
    have Q13 := Lib.hid (Q12.out.below b13)
    clear Q12 b13 C12 R12 M12 Zg12 Zm12
    go_wp2_with fail
    refine (HQ2.out _ _ _ M13.out Zm13.out).mono ?_
    rintro e w14 ⟨⟨a2, m2, c2, rfl, rfl, q2⟩, b14⟩
    have C14 := Lib.hid (C13.out.trans (b14.mono C13.out.size))
    have R14 := Lib.hid (R13.out.below b14)
    have M14 := Lib.hid (M13.out.below b14)
    have Zg14 : Hid (g < w14.heap.size) := Lib.hid (Nat.lt_of_lt_of_le Zg13.out b14.size)
    have Zm14 : Hid (gm < w14.heap.size) := Lib.hid (Nat.lt_of_lt_of_le Zm13.out b14.size)
    have Q14 := Lib.hid (Q13.out.below b14)
    have QQ := Lib.hid q2
    clear q2 Q13 b14 C13 R13 M13 Zg13 Zm13
    obtain ⟨p1, o1, rfl, hp1⟩ := strRow_some Q14.out hb1.2
    obtain ⟨p2, o2, rfl, hp2⟩ := strRow_some QQ.out hb2.2
    have HC1 : Hid (0 + A1.length ≤ maxLen) := Lib.hid (by unfold maxLen; omega)
    have HC2 : Hid ((0 + A1.length) * 16 ≤ 140737488355328) := Lib.hid (by omega)
    have HC3 : Hid (A1.length + A2.length ≤ maxLen) := Lib.hid (by unfold maxLen; omega)
    have HC4 : Hid ((A1.length + A2.length) * 16 ≤ 140737488355328) := Lib.hid (by omega)
    have HNW := Lib.hid (strRow_news Q14.out)
    go_wp2_with (at_builtin; refine wpList_append_lies _ rfl _ _ 25 rfl w14.heap.size 9 i0 (.string ⟨#[]⟩) 1 16 Tryd.underlying25 HI0.out HZ0.out HZ1.out HZ2.out rfl (by omega) _ 0 [] rfl (World.ownsRow_nil _ _ _ _) ⟨p1, o1, none⟩ A1.length _ (A1.map strV) rfl (by simp) HNW.out (strs_one A1) hb1.2 HC1.out HC2.out (Nat.le_refl _) w14.heap.size rfl ?_)
    intro g15 c15 w15 hown15 hg15 _ _
    have B15 := Lib.hid ((Below.refl w14.heap.size w14).grown hg15 (Nat.le_refl _) (fun j hj => by cases hj))
    have HNW2 := Lib.hid (strRow_news (QQ.out.below B15.out))
    have O15 := Lib.hid hown15
    clear hown15 hg15 HNW HC1 HC2
    go_wp2_with (at_builtin; refine wpList_append_lies _ rfl _ _ 25 rfl w14.heap.size 9 i0 (.string ⟨#[]⟩) 1 16 Tryd.underlying25 HI0.out HZ0.out HZ1.out HZ2.out rfl (by omega) _ A1.length _ rfl O15.out ⟨p2, o2, none⟩ A2.length _ (A2.map strV) rfl (by simp) HNW2.out (strs_one A2) hb2.2 HC3.out HC4.out B15.out.size w15.heap.size rfl ?_)
    intro g16 c16 w16 hown16 hg16 _ _
    have B16 := Lib.hid (B15.out.grown hg16 B15.out.size (fun j hj => (O15.out.lt j hj).1))
    have o16 : w16.ownsRow w14.heap.size 9 1 (.slice (some ⟨g16, 0, none⟩) (A1.length + A2.length) c16) (A1.length + A2.length) ((A1 ++ A2).map strV) := by rw [List.map_append]; exact hown16
    have hrow : StrRow w16 (some ⟨g16, 0, none⟩) (A1 ++ A2) := by
      obtain ⟨a5, c5, he5, hr5⟩ := own_strs o16 (by rw [List.length_append])
      have : a5 = some ⟨g16, 0, none⟩ := by simp at he5; exact he5.1.symm
      rw [← this]; exact hr5
    have hex : ∃ i j, j < i ∧ i < (A1 ++ A2).length ∧ (A1 ++ A2).getD i ByteArray.empty ≠ (A1 ++ A2).getD j ByteArray.empty ∧ shaB ((A1 ++ A2).getD i ByteArray.empty) = shaB ((A1 ++ A2).getD j ByteArray.empty) := by
      obtain ⟨ta, tb, h1, h2, h3, h4⟩ := HCC.out
      obtain ⟨i, j, e1, e2, e3, e4⟩ := mem_at A1 A2 ta tb h1 h2
      exact ⟨i, j, e1, e2, by rw [e3, e4]; exact Ne.symm h3, by rw [e3, e4]; exact h4.symm⟩
    have HCT := Lib.hid (clash_true w16 g16 0 c16 (A1 ++ A2) (by rw [List.length_append]; omega) hrow (getD_all _ _ (fun p hp => by
      rcases List.mem_append.1 hp with h | h
      · exact HZA.out p h
      · exact HZB.out p h)) hex)
    rw [List.length_append] at HCT
    have C16 := Lib.hid (C14.out.trans (B16.out.mono C14.out.size))
    clear hown16 hg16 o16 hrow hex HCC
    go_wp2_with fail
    refine HCT.out.mono ?_
    rintro e w17 ⟨rfl, b17⟩
    go_wp2
    go_ret
    exact ⟨rfl, C16.out.trans (b17.mono C16.out.size)⟩

theorem own : ownKnob Tryd.prog.godebug = none := by kernel_rfl
theorem laidOut : laidOutB Tryd.prog = true := by kernel_rfl

set_option maxRecDepth 100000 in
theorem contract (H : Type) (enc : TypeId × Value → H) (W : World) (base : Nat) (args : Array Value) (ds gs : List (DataW H)) (before : List MemPlace)
    (hval : ∀ (j : Nat) t v, Tryd.f14.params[j]? = some t → args[j]? = some v → Value.okWide Tryd.prog W .any base t v)
    (hW : DataW.Whole enc Tryd.prog Tryd.f14.params.toList Rows.wotsTurnedSpec.vars false W args.toList ds gs before) (hL : laidMetH Tryd.prog Rows.wotsTurnedRow.laid W) :
    Calls Tryd.prog 14 args W fun e W' => ∃ v, e = .returned v ∧ Rows.wotsTurnedSpec.post enc Tryd.prog Tryd.f14 false true false false W args v W' := by
  have hW' := hW
  obtain ⟨p, q, hA0, hV, rfl, hfz, hnd⟩ := hW
  have hA : DataW.TrodAll enc Tryd.prog W 0 (fun _ => true) true Tryd.f14.params.toList args.toList ds p := hA0
  rw [Tryd.params14] at hA hval
  obtain ⟨v0, vs0, d0, ds0, p0, q0, hargs, rfl, rfl, h0, r0⟩ := trodAll_cons hA
  obtain ⟨v1, vs1, d1, ds1, p1, q1, rfl, rfl, rfl, h1, r1⟩ := trodAll_cons r0
  obtain ⟨v2, vs2, d2, ds2, p2, q2, rfl, rfl, rfl, h2, r2⟩ := trodAll_cons r1
  obtain ⟨v3, vs3, d3, ds3, p3, q3, rfl, rfl, rfl, h3, r3⟩ := trodAll_cons r2
  obtain ⟨v4, vs4, d4, ds4, p4, q4, rfl, rfl, rfl, h4, r4⟩ := trodAll_cons r3
  obtain ⟨rfl, rfl, rfl⟩ := trodAll_nil r4
  obtain rfl : args = #[v0, v1, v2, v3, v4] := by cases args; simp_all
  obtain ⟨rfl, rfl⟩ := trodVars_none hV
  obtain ⟨a0, rfl, rfl, rfl, w0⟩ := open_string Tryd.underlying9 (hval 0 9 v0 rfl rfl) h0
  obtain ⟨a1, rfl, rfl, rfl, w1⟩ := open_int Tryd.underlying63 (hval 1 63 v1 rfl rfl) h1
  obtain ⟨a2, rfl, rfl, rfl, w2⟩ := open_string Tryd.underlying9 (hval 2 9 v2 rfl rfl) h2
  obtain ⟨a3, rfl, rfl, rfl, w3⟩ := open_int Tryd.underlying5 (hval 3 5 v3 rfl rfl) h3
  obtain ⟨a4, rfl, rfl, rfl, w4⟩ := open_string Tryd.underlying9 (hval 4 9 v4 rfl rfl) h4
  clear hA0
  refine (walk a0 a1 a2 a3 a4 w0 w1 w2 w3 w4 W (tabs_of_laid hL)).mono fun e W' ⟨he, bel⟩ => ?_
  subst he
  exact ⟨_, rfl, _, _, _, [], [], [], hW', trodAll_mk1 (shut_bool Tryd.underlying4 _), (trodAll_cons_mk (shut_string Tryd.underlying9 w0) (trodAll_cons_mk (shut_int Tryd.underlying63 w1) (trodAll_cons_mk (shut_string Tryd.underlying9 w2) (trodAll_cons_mk (shut_int Tryd.underlying5 w3) (trodAll_cons_mk (shut_string Tryd.underlying9 w4) trodAll_mk0))))), rfl, bel.frame _, fun h => by cases h⟩

theorem laid_met (os : Os) : laidMet Tryd.prog Rows.wotsTurnedRow.laid (({ World.holding Tryd.prog os ⟨#[], #[], []⟩ with heap := ((World.holding Tryd.prog os ⟨#[], #[], []⟩).heap.modify 0 fun | .cells _ t frozen => .cells #[.int .u32 1779033703, .int .u32 3144134277, .int .u32 1013904242, .int .u32 2773480762, .int .u32 1359893119, .int .u32 2600822924, .int .u32 528734635, .int .u32 1541459225] t frozen | o => o).modify 1 fun | .cells _ t frozen => .cells #[.int .u32 1116352408, .int .u32 1899447441, .int .u32 3049323471, .int .u32 3921009573, .int .u32 961987163, .int .u32 1508970993, .int .u32 2453635748, .int .u32 2870763221, .int .u32 3624381080, .int .u32 310598401, .int .u32 607225278, .int .u32 1426881987, .int .u32 1925078388, .int .u32 2162078206, .int .u32 2614888103, .int .u32 3248222580, .int .u32 3835390401, .int .u32 4022224774, .int .u32 264347078, .int .u32 604807628, .int .u32 770255983, .int .u32 1249150122, .int .u32 1555081692, .int .u32 1996064986, .int .u32 2554220882, .int .u32 2821834349, .int .u32 2952996808, .int .u32 3210313671, .int .u32 3336571891, .int .u32 3584528711, .int .u32 113926993, .int .u32 338241895, .int .u32 666307205, .int .u32 773529912, .int .u32 1294757372, .int .u32 1396182291, .int .u32 1695183700, .int .u32 1986661051, .int .u32 2177026350, .int .u32 2456956037, .int .u32 2730485921, .int .u32 2820302411, .int .u32 3259730800, .int .u32 3345764771, .int .u32 3516065817, .int .u32 3600352804, .int .u32 4094571909, .int .u32 275423344, .int .u32 430227734, .int .u32 506948616, .int .u32 659060556, .int .u32 883997877, .int .u32 958139571, .int .u32 1322822218, .int .u32 1537002063, .int .u32 1747873779, .int .u32 1955562222, .int .u32 2024104815, .int .u32 2227730452, .int .u32 2361852424, .int .u32 2428436474, .int .u32 2756734187, .int .u32 3204031479, .int .u32 3329325298] t frozen | o => o } : World).forCall (fun _ _ => 0) ⟨#[], #[.string ByteArray.empty, .int .u16 0, .string ByteArray.empty, .int .u8 0, .string ByteArray.empty], []⟩).memory :=
  laidMet_of_run' 8 (by kernel_rfl) (by kernel_rfl)
theorem reads (os : Os) {H : Type} (enc : TypeId × Value → H) : ∃ places, DataW.whole enc Tryd.prog (({ World.holding Tryd.prog os ⟨#[], #[], []⟩ with heap := ((World.holding Tryd.prog os ⟨#[], #[], []⟩).heap.modify 0 fun | .cells _ t frozen => .cells #[.int .u32 1779033703, .int .u32 3144134277, .int .u32 1013904242, .int .u32 2773480762, .int .u32 1359893119, .int .u32 2600822924, .int .u32 528734635, .int .u32 1541459225] t frozen | o => o).modify 1 fun | .cells _ t frozen => .cells #[.int .u32 1116352408, .int .u32 1899447441, .int .u32 3049323471, .int .u32 3921009573, .int .u32 961987163, .int .u32 1508970993, .int .u32 2453635748, .int .u32 2870763221, .int .u32 3624381080, .int .u32 310598401, .int .u32 607225278, .int .u32 1426881987, .int .u32 1925078388, .int .u32 2162078206, .int .u32 2614888103, .int .u32 3248222580, .int .u32 3835390401, .int .u32 4022224774, .int .u32 264347078, .int .u32 604807628, .int .u32 770255983, .int .u32 1249150122, .int .u32 1555081692, .int .u32 1996064986, .int .u32 2554220882, .int .u32 2821834349, .int .u32 2952996808, .int .u32 3210313671, .int .u32 3336571891, .int .u32 3584528711, .int .u32 113926993, .int .u32 338241895, .int .u32 666307205, .int .u32 773529912, .int .u32 1294757372, .int .u32 1396182291, .int .u32 1695183700, .int .u32 1986661051, .int .u32 2177026350, .int .u32 2456956037, .int .u32 2730485921, .int .u32 2820302411, .int .u32 3259730800, .int .u32 3345764771, .int .u32 3516065817, .int .u32 3600352804, .int .u32 4094571909, .int .u32 275423344, .int .u32 430227734, .int .u32 506948616, .int .u32 659060556, .int .u32 883997877, .int .u32 958139571, .int .u32 1322822218, .int .u32 1537002063, .int .u32 1747873779, .int .u32 1955562222, .int .u32 2024104815, .int .u32 2227730452, .int .u32 2361852424, .int .u32 2428436474, .int .u32 2756734187, .int .u32 3204031479, .int .u32 3329325298] t frozen | o => o } : World).forCall (fun _ _ => 0) ⟨#[], #[.string ByteArray.empty, .int .u16 0, .string ByteArray.empty, .int .u8 0, .string ByteArray.empty], []⟩).memory Tryd.f14.params.toList Rows.wotsTurnedSpec.vars false (#[.string ByteArray.empty, .int .u16 0, .string ByteArray.empty, .int .u8 0, .string ByteArray.empty] : Array Value).toList 8 = some ([.lit (.string []), .lit (.int .u16 0), .lit (.string []), .lit (.int .u8 0), .lit (.string [])], [], places) :=
  ⟨[], by kernel_rfl⟩

set_option maxRecDepth 100000 in
theorem lifted (os : Os) (started : os.Started) (H : Type) (enc : TypeId × Value → H) (F : Stop.Interp) :
    ReturnsInHanded {} Tryd.checked os 14 .any ((OpenSpec.ofChange Rows.wotsTurnedSpec).preRow enc Tryd.prog Tryd.f14 Rows.wotsTurnedRow.domain false Rows.wotsTurnedRow.laid) (((OpenSpec.ofChange Rows.wotsTurnedSpec).at F).post enc Tryd.prog Tryd.f14 false true false false) := by
  obtain ⟨places, hx⟩ := reads os enc
  refine returnsInHanded_of_row (C := Tryd.checked) (s := OpenSpec.ofChange Rows.wotsTurnedSpec) own started (by kernel_rfl) Tryd.func14
    (witness_row_at (enc := enc) (C := Tryd.checked) false ({ World.holding Tryd.prog os ⟨#[], #[], []⟩ with heap := ((World.holding Tryd.prog os ⟨#[], #[], []⟩).heap.modify 0 fun | .cells _ t frozen => .cells #[.int .u32 1779033703, .int .u32 3144134277, .int .u32 1013904242, .int .u32 2773480762, .int .u32 1359893119, .int .u32 2600822924, .int .u32 528734635, .int .u32 1541459225] t frozen | o => o).modify 1 fun | .cells _ t frozen => .cells #[.int .u32 1116352408, .int .u32 1899447441, .int .u32 3049323471, .int .u32 3921009573, .int .u32 961987163, .int .u32 1508970993, .int .u32 2453635748, .int .u32 2870763221, .int .u32 3624381080, .int .u32 310598401, .int .u32 607225278, .int .u32 1426881987, .int .u32 1925078388, .int .u32 2162078206, .int .u32 2614888103, .int .u32 3248222580, .int .u32 3835390401, .int .u32 4022224774, .int .u32 264347078, .int .u32 604807628, .int .u32 770255983, .int .u32 1249150122, .int .u32 1555081692, .int .u32 1996064986, .int .u32 2554220882, .int .u32 2821834349, .int .u32 2952996808, .int .u32 3210313671, .int .u32 3336571891, .int .u32 3584528711, .int .u32 113926993, .int .u32 338241895, .int .u32 666307205, .int .u32 773529912, .int .u32 1294757372, .int .u32 1396182291, .int .u32 1695183700, .int .u32 1986661051, .int .u32 2177026350, .int .u32 2456956037, .int .u32 2730485921, .int .u32 2820302411, .int .u32 3259730800, .int .u32 3345764771, .int .u32 3516065817, .int .u32 3600352804, .int .u32 4094571909, .int .u32 275423344, .int .u32 430227734, .int .u32 506948616, .int .u32 659060556, .int .u32 883997877, .int .u32 958139571, .int .u32 1322822218, .int .u32 1537002063, .int .u32 1747873779, .int .u32 1955562222, .int .u32 2024104815, .int .u32 2227730452, .int .u32 2361852424, .int .u32 2428436474, .int .u32 2756734187, .int .u32 3204031479, .int .u32 3329325298] t frozen | o => o } : World) #[.string ByteArray.empty, .int .u16 0, .string ByteArray.empty, .int .u8 0, .string ByteArray.empty] rfl (by kernel_rfl) (by kernel_rfl) (by kernel_rfl)
      (OpenSpec.preRow_of_cond 8 hx (by kernel_rfl) (fun k hk => by cases hk) (by kernel_rfl) (laid_met os))) ?_
  intro W base args ds gs before hval hW _ _ _ hL _ _
  exact contract H enc W base args ds gs before hval hW hL

theorem said : Rows.WotsTurnedSaid :=
  OpenClaim.holds_of_cond 14 Tryd.f14 rfl rfl rfl rfl rfl rfl rfl ⟨rfl, rfl, rfl, rfl, rfl⟩ rfl rfl rfl rfl rfl (by kernel_rfl) Tryd.func14 (by kernel_rfl)
    (of_decide_eq_true (by kernel_rfl)) (by unfold Func.isWrapper; first | (rw [if_pos (by decide +kernel)]; kernel_rfl) | (rw [if_neg (by decide +kernel)]; exact ⟨rfl, rfl⟩))
    (fun os started H enc _ F => by rw [OpenClaim.pre_eq_preRow]; exact lifted os started H enc F)

theorem plain (f : FuncId) (fn : Func) (hf : Tryd.pinned.checked.prog.funcNamed Rows.wotsTurnedRow.func = some f) (hfn : Tryd.pinned.checked.prog.funcs[f]? = some fn) :
    false = Tryd.pinned.checked.prog.looks [] ∧ ∀ (j : Nat) t, fn.params[j]? = some t → Tryd.pinned.checked.prog.wantsStandIn t = false := by
  obtain rfl : f = 14 := Option.some.inj ((show Tryd.prog.funcNamed Rows.wotsTurnedRow.func = some 14 by kernel_rfl).symm.trans hf) |>.symm
  obtain rfl : fn = Tryd.f14 := (Option.some.inj (Tryd.func14.symm.trans hfn)).symm
  refine ⟨by kernel_rfl, fun j t ht => ?_⟩
  rw [Tryd.params14] at ht
  have hm : t = 9 ∨ t = 63 ∨ t = 5 := by first | simpa using Array.mem_of_getElem? ht | (have h := Array.mem_of_getElem? ht; simp only [List.mem_toArray, List.mem_cons, List.not_mem_nil, or_false] at h; rcases h with rfl | rfl | rfl | rfl | rfl <;> simp)
  rcases hm with rfl | rfl | rfl
  · exact (show Tryd.prog.wantsStandIn 9 = false by kernel_rfl)
  · exact (show Tryd.prog.wantsStandIn 63 = false by kernel_rfl)
  · exact (show Tryd.prog.wantsStandIn 5 = false by kernel_rfl)

theorem card : Rows.WotsTurnedCardSaid :=
  Claim7.holds_tied_plain_at .later [] _ _ _ _ said (fun _ h => by cases h) (by kernel_rfl) (fun _ h => by cases h) wotsTurned_row_tie rfl ⟨rfl, rfl⟩ (by kernel_rfl) rfl plain (by kernel_rfl)

end Go.Proofs.YtkpcobahkpiogaaDoor.WotsTurned
namespace Go.Proofs.YtkpcobahkpiogaaDoor
theorem wotsTurned_card : Rows.WotsTurnedCardSaid := WotsTurned.card
#print axioms wotsTurned_card
end Go.Proofs.YtkpcobahkpiogaaDoor

