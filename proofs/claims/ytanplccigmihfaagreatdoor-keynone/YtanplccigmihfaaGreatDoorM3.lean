/-
  Contracts of merkle: Path, Fold; of the law's own awake and long.
-/
import Derived.Test.YtanplccigmihfaaGreatDoorM2
namespace Go.Proofs.YtanplccigmihfaaGreatDoor
open Go.RowKit Go.Pal

theorem strV_one (s : ByteArray) : ∀ u ∈ [strV s], u.oneCell' = true := by
  intro u hu
  obtain rfl : u = strV s := by simpa using hu
  rfl

set_option maxHeartbeats 400000 in
theorem path_no (w : World) (a : Option Addr) (n cap : Nat) (i : Int) (hn : n ≤ maxLen) (h : mayB n = false ∨ i < 0 ∨ (n : Int) ≤ i) :
    Calls Tryz.prog 40 #[.slice a n cap, .int .i64 i] w fun e w' => e = .returned (.tuple #[.slice none 0 0, .bool false]) ∧ w = w' := by
  have HL := Lib.hid (leaves_any w a n cap hn)
  have hcase : mayB n = false ∨ (mayB n = true ∧ i < 0) ∨ (mayB n = true ∧ 0 ≤ i ∧ (n : Int) ≤ i) := by
    cases hm : mayB n
    · exact .inl rfl
    · rw [hm] at h
      rcases h with h | h | h
      · cases h
      · exact .inr (.inl ⟨rfl, h⟩)
      · exact .inr (.inr ⟨rfl, by omega, h⟩)
  clear h
  rcases hcase with h | ⟨h, h1⟩ | ⟨h, h1, h2⟩
  all_goals
    rw [h] at HL
    clear h
    go_enter Tryz.func40, Tryz.ntmps40
    go_wp2_with fail
    refine HL.out.mono ?_
    rintro e w1 ⟨rfl, rfl⟩
    go_wp2
    go_ret2
    exact ⟨rfl, rfl⟩

set_option maxHeartbeats 1000000 in
set_option maxRecDepth 100000 in
theorem path_yes (w : World) (a : Option Addr) (cap : Nat) (ss : List ByteArray) (H i : Nat) (hH : H ≤ 4) (hlen : ss.length = 2 ^ H) (hi : i < 2 ^ H) (hss : StrRow w a ss) (hsm : SmallL ss) (ht : Tabs w) :
    Calls Tryz.prog 40 #[.slice a ss.length cap, .int .i64 i] w fun e w' => (∃ v, e = .returned (.tuple #[v, .bool true]) ∧ w'.ownsRow w.heap.size 9 1 v H ((pathTo ss i H).map strV)) ∧ Below w.heap.size w w' := by
  obtain ⟨i0, hi0, hz0, hz1, hz2⟩ := info_parts (show (Tryz.prog.info? 9).map (fun i => (i.zero, i.size, i.bytes)) = some (some (.string ⟨#[]⟩), 1, 16) by kernel_rfl)
  have h16 := pow_le16 H hH
  have HL := Lib.hid (leaves_any w a ss.length cap (by unfold maxLen; omega))
  rw [show mayB ss.length = true by rw [hlen]; exact pow_may H hH] at HL
  have HN := Lib.hid (fun k hk => rowN_pow ss H k hlen hk)
  have HSM := Lib.hid (smallL_n ss hsm)
  have HDIV := Lib.hid (fun k hk => div_lt_pow i H k hi hk)
  have HT := Lib.hid ht
  have HSS := Lib.hid hss
  have hi1 : i < ss.length := by omega
  have HM1 : Hid (i0.bytes * 4 ≤ 281474976710656) := Lib.hid (by rw [hz2]; omega)
  have HM2 : Hid (4 ≤ maxLen) := Lib.hid (by unfold maxLen; omega)
  have HI := Lib.hid hi0
  have HZ0 := Lib.hid hz0
  have HZ1 := Lib.hid hz1
  have HZ2 := Lib.hid hz2
  have hp0 : 0 < ss.length := by omega
  clear hss hsm ht hlen h16 hi0 hz0 hz1 hz2 hi
  go_enter Tryz.func40, Tryz.ntmps40
  go_wp2_with fail
  refine HL.out.mono ?_
  rintro e w1 ⟨rfl, rfl⟩
  clear HL
  go_wp2_with (at_make; refine wpList_make_own _ rfl _ _ 39 rfl w.heap.size 9 i0 (.string ⟨#[]⟩) 1 Tryz.underlying39 HI.out HZ0.out HZ1.out .i64 .i64 _ 4 rfl rfl rfl HM1.out HM2.out (Nat.le_refl _) ?_)
  intro w1 hown1 hg1
  have HO1 := Lib.hid hown1
  have b1 := ((Below.refl w.heap.size w).grown hg1 (Nat.le_refl _) (by intro k hk; cases hk))
  have HB1 := Lib.hid b1
  have HS1 := Lib.hid (HSS.out.below b1)
  obtain ⟨b, off, rfl, hbl⟩ : ∃ b off, a = some ⟨b, off, none⟩ ∧ b < w.heap.size := by
    rcases HSS.out with h0 | ⟨b, off, rfl, hbl, _⟩
    · rw [h0] at hp0; simp at hp0
    · exact ⟨b, off, rfl, hbl⟩
  have hne0 : w.heap.size ≠ b := by omega
  clear hown1 hg1 HM1 HM2 HSS b1 hi1
  go_wp2
  go_loopw [1, 6, 7] (fun vi v6 v7 wr => ∃ k b2 off2 c2 q : Nat, k ≤ H ∧ vi = .int .i64 q ∧ q = i / 2 ^ k ∧ v7 = .slice (some ⟨b2, off2, none⟩) (rowN k ss).length c2 ∧ StrRow wr (some ⟨b2, off2, none⟩) (rowN k ss) ∧ b2 < wr.heap.size ∧ v6.ownBlock ≠ some b2 ∧ wr.ownsRow w.heap.size 9 1 v6 k ((pathTo ss i k).map strV) ∧ Below w.heap.size w wr) (fun _ _ v7 _ => sliceLen v7)
  case atStart => exact ⟨0, b, off, cap, i, by omega, rfl, by simp, rfl, HS1.out, Nat.lt_of_lt_of_le hbl HB1.out.size, by simp [Value.ownBlock, hne0], HO1.out, HB1.out⟩
  case round =>
    clear HO1 HB1 HS1 hne0
    obtain ⟨k, b2, off2, c2, q, hk, rfl, hq, rfl, hrow, hb2, hne, hown, hb⟩ := hrel
    have hlk := HN.out k hk
    by_cases hlt : k < H
    · have h2 := pow_ge2 (H - k) (by omega)
      have h16 := pow_le16 (H - k) (by omega)
      have hdv := HDIV.out k hk
      rw [← hq] at hdv
      have hbs := beside_lt q (2 ^ (H - (k + 1))) (by have e : 2 ^ (H - k) = 2 * 2 ^ (H - (k + 1)) := by { rw [show H - k = (H - (k + 1)) + 1 by omega, Nat.pow_succ]; omega }; omega)
      have e2 : 2 ^ (H - k) = 2 * 2 ^ (H - (k + 1)) := by rw [show H - k = (H - (k + 1)) + 1 by omega, Nat.pow_succ]; omega
      have hx := xor_beside q (by omega)
      have hl2 := rowUp_length (rowN k ss)
      have hnx : rowN (k + 1) ss = rowUp (rowN k ss) := rfl
      have hpt := pathTo_succ ss i k
      rw [← hq] at hpt
      have hsm := HSM.out k
      have hqh : q / 2 = i / 2 ^ (k + 1) := by rw [half_step, ← hq]
      have hbl2 : beside q < (rowN k ss).length := by omega
      generalize rowN k ss = R at *
      generalize hU : rowN (k + 1) ss = U at *
      generalize hP : pathTo ss i k = Pk at *
      generalize hP2 : pathTo ss i (k + 1) = Pk2 at *
      generalize beside q = bq at *
      have c0 : wr.cell? ⟨b2, off2 + bq, none⟩ = some (.string (R.getD bq ByteArray.empty)) := by
        rcases hrow with h0 | ⟨bb, oo, he, _, hc⟩
        · rw [h0] at hbl2; simp at hbl2
        · cases he; exact hc bq hbl2
      have hxs := hsm bq
      generalize R.getD bq ByteArray.empty = X at *
      have HAB := Lib.hid (fun W (hr : StrRow W (some ⟨b2, off2, none⟩) R) hT => above_any W (some ⟨b2, off2, none⟩) c2 R hr (by omega) hsm hT)
      rw [← hnx] at HAB hl2
      have h1 : 1 < R.length := by omega
      have HUL : Hid (U.length < R.length) := Lib.hid (by omega)
      have HU := Lib.hid hU
      have HP2 := Lib.hid hP2
      have HPT := Lib.hid hpt
      have HQ := Lib.hid hqh
      have HR := Lib.hid hrow
      have HO := Lib.hid hown
      have HB := Lib.hid hb
      have HNE := Lib.hid hne
      have HB2 := Lib.hid hb2
      have hR16 : R.length ≤ 16 := by omega
      have hq16 : q < 16 := by omega
      have HC1 : Hid (k + 1 ≤ maxLen) := Lib.hid (by unfold maxLen; omega)
      have HC2 : Hid ((k + 1) * 16 ≤ 140737488355328) := Lib.hid (by omega)
      clear hU hP2 hpt hrow hown hb hnx hlk h2 h16 hl2 hdv hbs e2 hqh hsm hne hb2 hP hq
      go_wp2_with fail
      refine (clone_any X _ (by omega)).mono ?_
      rintro e w2 ⟨rfl, b3⟩
      have hO2 := HO.out.kept (Lib.grownBy_below (World.grownBy.refl wr none) b3) (by cases h : Value.ownBlock _ <;> simp)
      have C2 := Lib.hid (HB.out.trans (b3.mono HB.out.size))
      have HR2 := Lib.hid (HR.out.below b3)
      have HB3 : Hid (b2 < w2.heap.size) := Lib.hid (Nat.lt_of_lt_of_le HB2.out b3.size)
      have HO2 := Lib.hid hO2
      have HC3 : Hid (∀ o : Obj, w.heap.size ≤ (w2.alloc o).heap.size) := Lib.hid (fun o => by have := C2.out.size; simp; omega)
      clear b3 hO2 HO HB HR HB2 c0 hx
      go_wp2_with (at_builtin; refine wpList_append_lies _ rfl _ _ 39 rfl w.heap.size 9 i0 (.string ⟨#[]⟩) 1 16 Tryz.underlying39 HI.out HZ0.out HZ1.out HZ2.out rfl (by omega) _ k _ rfl (HO2.out.alloc _) ⟨w2.heap.size, 0, none⟩ 1 1 [strV X] rfl rfl (World.news_of_block (cs := #[strV X]) (t := 9) (fr := (0, 0)) (heap_alloc_new w2 _)) (strV_one X) (by omega) HC1.out HC2.out (HC3.out _) (w2.heap.size + 1) (by simp) ?_)
      intro g4 cap4 w4 hown4 hg4 hat4 hlt4
      have b4 := (C2.out.alloc C2.out.size _).grown hg4 (HC3.out _) (fun j hj => (HO2.out.lt j hj).1)
      have hr4 : StrRow w4 (some ⟨b2, off2, none⟩) R := by
        rcases HR2.out with h0 | ⟨bb, oo, he, hl, hc⟩
        · exact .inl h0
        · cases he
          refine .inr ⟨b2, off2, rfl, Nat.lt_of_lt_of_le hl (Nat.le_trans (by simp) hg4.size), fun j hj => ?_⟩
          rw [hg4.cell_far ⟨b2, off2 + j, none⟩ (by simp; omega) (fun e => HNE.out e.symm)]
          rw [World.cell?_of_block (heap_alloc_old w2 _ hl)]
          exact hc j hj
      have hne4 : (Value.slice (some ⟨g4, 0, none⟩) (k + 1) cap4).ownBlock ≠ some b2 := by
        rcases hat4 with h | h
        · rw [show (Value.slice (some ⟨g4, 0, none⟩) (k + 1) cap4).ownBlock = some g4 from rfl, ← h]; exact HNE.out
        · have := HB3.out
          simp only [Value.ownBlock, ne_eq, Option.some.injEq]; omega
      have HO4 := Lib.hid hown4
      have HB4 := Lib.hid b4
      have HR4 := Lib.hid hr4
      have HL4 := Lib.hid hlt4
      clear hown4 b4 hr4 hg4 hat4 hne4 hlt4 HO2 C2 HR2 HC1 HC2 HC3
      go_wp2_with fail
      refine (HAB.out _ HR4.out (HT.out.below HB4.out)).mono ?_
      rintro e w5 ⟨rfl, r5, hz5, b5⟩
      have C5 := Lib.hid (HB4.out.trans (b5.mono HB4.out.size))
      have HR5 := Lib.hid r5
      have HZ5 := Lib.hid hz5
      have HO5 := Lib.hid (HO4.out.kept (Lib.grownBy_below (World.grownBy.refl w4 none) b5) (by simp [Value.ownBlock]))
      have HN5 : Hid ((Value.slice (some ⟨g4, 0, none⟩) (k + 1) cap4).ownBlock ≠ some w4.heap.size) := Lib.hid (by have := HL4.out; simp only [Value.ownBlock, ne_eq, Option.some.injEq]; omega)
      clear r5 b5 hz5
      go_wp2
      go_roundw
      case rel =>
        refine ⟨k + 1, w4.heap.size, 0, _, q / 2, by omega, by go_num, HQ.out, by rw [HU.out], by rw [HU.out]; exact HR5.out, HZ5.out, HN5.out, ?_, C5.out⟩
        rw [HP2.out, HPT.out, List.map_append]
        exact HO5.out
      case measure => simp only [sliceLen]; exact HUL.out
    · obtain rfl : k = H := by omega
      rw [Nat.sub_self] at hlk
      have hl1 : (rowN k ss).length = 1 := hlk
      rw [hl1]
      have HB := Lib.hid hb
      have HO := Lib.hid hown
      clear hb hl1 hlk hown hrow hq
      go_wp2
      go_ret2
      exact ⟨⟨_, rfl, HO.out⟩, HB.out⟩


set_option maxHeartbeats 1000000 in
set_option maxRecDepth 100000 in
theorem fold_yes (w : World) (leaf : ByteArray) (i : Nat) (a : Option Addr) (cap : Nat) (ss : List ByteArray) (hn : ss.length ≤ 4) (hi : i < 2 ^ ss.length) (hlf : leaf.size ≤ 1000000) (hss : StrRow w a ss) (hsm : SmallL ss) (ht : Tabs w) :
    Calls Tryz.prog 57 #[.string leaf, .int .i64 i, .slice a ss.length cap] w fun e w' => e = .returned (.tuple #[.string (foldAt leaf i ss ss.length), .bool true]) ∧ Below w.heap.size w w' := by
  have HZ := Lib.hid (foldAt_size leaf i ss hlf)
  have hstep : ∀ k, foldAt leaf i ss (k + 1) = if i / 2 ^ k % 2 = 1 then pairB (ss.getD k ByteArray.empty) (foldAt leaf i ss k) else pairB (foldAt leaf i ss k) (ss.getD k ByteArray.empty) := fun k => rfl
  have HST := Lib.hid hstep
  have HSS := Lib.hid hss
  have HSM := Lib.hid hsm
  have HT := Lib.hid ht
  have h16 := pow_le16 ss.length hn
  have hpow : (1 : Int) * 2 ^ ss.length = ((2 ^ ss.length : Nat) : Int) := by rw [Int.one_mul, Int.natCast_pow]; rfl
  have H0 := Lib.hid (show foldAt leaf i ss 0 = leaf from rfl)
  obtain ⟨C, hC⟩ : ∃ C, C = foldAt leaf i ss := ⟨_, rfl⟩
  rw [← hC] at HZ HST H0 ⊢
  clear hstep hss hsm ht hC
  go_enter Tryz.func57, Tryz.ntmps57
  go_wp2_with fail
  refine (clone_any leaf _ (by omega)).mono ?_
  rintro e w2 ⟨rfl, b2⟩
  have HB2 := Lib.hid b2
  clear b2 hpow h16
  go_wp2
  go_loopw [1, 8, 30] (fun vi v8 vc wr => ∃ k q : Nat, k ≤ ss.length ∧ vi = .int .i64 q ∧ q = i / 2 ^ k ∧ q ≤ i ∧ v8 = .string (C k) ∧ vc = .int .i64 k ∧ Below w.heap.size w wr) (fun _ _ vc _ => ss.length - (intOf vc).toNat)
  case atStart => exact ⟨0, i, by omega, rfl, by simp, by omega, by rw [H0.out], rfl, HB2.out⟩
  case round =>
    clear HB2
    obtain ⟨k, q, hk, rfl, hq, hqi, rfl, rfl, hb⟩ := hrel
    by_cases hlt : k < ss.length
    · rcases HSS.out with h0 | ⟨b, off, rfl, hbl, hc⟩
      · rw [h0] at hlt; simp at hlt
      have c0 := (hb.cell (p := ⟨b, off + k, none⟩) hbl).trans (hc k hlt)
      have hst := HST.out k
      have hqh : q / 2 = i / 2 ^ (k + 1) := by rw [half_step, ← hq]
      rw [← hq] at hst
      have hz := HZ.out k
      have hps := HSM.out k
      generalize ss.getD k ByteArray.empty = p at *
      generalize C k = X at *
      generalize hX2 : C (k + 1) = X2 at *
      have HX2 := Lib.hid hX2
      have HB := Lib.hid hb
      have HQ := Lib.hid hqh
      have hi16 : q < 16 := by have := pow_le16 ss.length hn; omega
      clear hX2 hb hqh hc hq
      have HPA := Lib.hid (fun W x y hx hy hT => pair_any W x y hx hy hT)
      by_cases hpar : q % 2 = 1
      · rw [if_pos hpar] at hst
        have HSTEP := Lib.hid hst
        have hp : ((q : Int) % 2 == 1) = true := by simp; omega
        clear hst hpar
        go_wp2_with fail
        have c3 := HB.out.alloc HB.out.size (.cells #[.string p, .string X] 129)
        refine (HPA.out _ p X hps hz (HT.out.below c3)).mono ?_
        rintro e w4 ⟨rfl, b4⟩
        have C4 := Lib.hid (c3.trans (b4.mono c3.size))
        clear c3 b4
        rw [← HSTEP.out]
        go_wp2
        go_roundw
        case rel => exact ⟨k + 1, q / 2, by omega, by go_num, HQ.out, by omega, by rw [HX2.out], by go_num, C4.out⟩
        case measure => simp [intOf]; omega
      · rw [if_neg hpar] at hst
        have HSTEP := Lib.hid hst
        have hp : ((q : Int) % 2 == 1) = false := by simp; omega
        clear hst hpar
        go_wp2_with fail
        have c3 := HB.out.alloc HB.out.size (.cells #[.string X, .string p] 129)
        refine (HPA.out _ X p hz hps (HT.out.below c3)).mono ?_
        rintro e w4 ⟨rfl, b4⟩
        have C4 := Lib.hid (c3.trans (b4.mono c3.size))
        clear c3 b4
        rw [← HSTEP.out]
        go_wp2
        go_roundw
        case rel => exact ⟨k + 1, q / 2, by omega, by go_num, HQ.out, by omega, by rw [HX2.out], by go_num, C4.out⟩
        case measure => simp [intOf]; omega
    · obtain rfl : k = ss.length := by omega
      have HB := Lib.hid hb
      clear hb hq
      go_wp2
      go_ret2
      exact ⟨rfl, HB.out⟩

set_option maxHeartbeats 1000000 in
set_option maxRecDepth 100000 in
theorem fold_no (w : World) (leaf : ByteArray) (i : Int) (a : Option Addr) (n cap : Nat) (h : 4 < n ∨ i < 0 ∨ 2 ^ n ≤ i) (hn : n ≤ maxLen) :
    Calls Tryz.prog 57 #[.string leaf, .int .i64 i, .slice a n cap] w fun e w' => e = .returned (.tuple #[.string ⟨#[]⟩, .bool false]) ∧ w = w' := by
  unfold maxLen at hn
  have hcase : 4 < n ∨ (n ≤ 4 ∧ i < 0) ∨ (n ≤ 4 ∧ 0 ≤ i ∧ (2 : Int) ^ n ≤ i) := by
    rcases h with h | h | h
    · exact .inl h
    · by_cases h4 : 4 < n
      · exact .inl h4
      · exact .inr (.inl ⟨by omega, h⟩)
    · by_cases h4 : 4 < n
      · exact .inl h4
      · by_cases h5 : i < 0
        · exact .inr (.inl ⟨by omega, h5⟩)
        · exact .inr (.inr ⟨by omega, by omega, h⟩)
  clear h
  rcases hcase with h | ⟨h, h1⟩ | ⟨h, h1, h2⟩
  · go_enter Tryz.func57, Tryz.ntmps57
    go_wp2
    go_ret2
    exact ⟨rfl, rfl⟩
  · go_enter Tryz.func57, Tryz.ntmps57
    go_wp2
    go_ret2
    exact ⟨rfl, rfl⟩
  · have h5 : n = 0 ∨ n = 1 ∨ n = 2 ∨ n = 3 ∨ n = 4 := by omega
    rcases h5 with rfl | rfl | rfl | rfl | rfl
    all_goals
      simp at h2
      go_enter Tryz.func57, Tryz.ntmps57
      go_wp2
      go_ret2
      exact ⟨rfl, rfl⟩

end Go.Proofs.YtanplccigmihfaaGreatDoor
