/-
  P3.4: of any two unlike digests each has a digit that is lower than the other one's: for every two texts, made digests.
  The tables of the program start as its text lays them (the card ties them).
-/
import Derived.Test.YtkpcobahkpiogaaDoorLaid
import Derived.Test.YtkpcobahkpiogaaDoorW3
import Derived.Test.YtkpcobahkpiogaaDoorWL
import Derived.ProofKit
import Derived.OpenShut
import Derived.ShutString
import Derived.ChangeOld
import Derived.SevenTiedAt
namespace Go.Proofs.YtkpcobahkpiogaaDoor.WotsLower
open Go.ChangeShapes Go.WideShapes Go.ChangeAt Go.RowKit Go.Pal
open Go.ChangeMaps (open_string shut_string)
set_option linter.unusedVariables false


set_option maxHeartbeats 1000000 in
set_option maxRecDepth 100000 in
theorem walk (a b : ByteArray) (ha : a.size ≤ maxLen) (hb : b.size ≤ maxLen) (w : World) (ht : Tabs w) :
    Calls Tryd.prog 13 #[.string a, .string b] w fun e w' => e = .returned (.bool true) ∧ Below w.heap.size w w' := by
  have HT := Lib.hid ht
  have HFA := Lib.hid (fun W => fit3 a ha W)
  have HFB := Lib.hid (fun W => fit3 b hb W)
  have lA : (fitB a).data.toList.length = 32 := fitL_length _
  have lB : (fitB b).data.toList.length = 32 := fitL_length _
  have sA := fitB_size a
  have sB := fitB_size b
  generalize fitB a = A at *
  generalize fitB b = B at *
  have hne1 := dig_less A.data.toList B.data.toList lA lB
  have hne2 := dig_less B.data.toList A.data.toList lB lA
  have hld := digL_length A.data.toList
  have hlm := digL_length B.data.toList
  rw [lA] at hld
  rw [lB] at hlm
  have HDA := Lib.hid (fun W => digits_yes A sA W)
  have HDB := Lib.hid (fun W => digits_yes B sB W)
  have hcase : A = B ∨ ((A.toList == B.toList) = false ∧ lessTo (digL A.data.toList) (digL B.data.toList) 67 = true ∧ lessTo (digL B.data.toList) (digL A.data.toList) 67 = true) := by
    by_cases h : A = B
    · exact .inl h
    · have h2 : A.data.toList ≠ B.data.toList := fun e => h (by
        cases A; cases B; congr 1; exact Array.toList_inj.1 e)
      exact .inr ⟨beqF h, hne1 h2, hne2 (Ne.symm h2)⟩
  have HC := Lib.hid hcase
  clear ht ha hb lA lB sA sB hne1 hne2 hcase
  generalize digL A.data.toList = l at *
  generalize digL B.data.toList = m at *
  have HL := Lib.hid hld
  have HM := Lib.hid hlm
  clear hld hlm
  go_enter Tryd.func13, Tryd.ntmps13
  go_wp2_with fail
  refine (HFA.out _).mono ?_
  rintro e w1 ⟨rfl, b1⟩
  have C1 := Lib.hid b1
  clear b1
  go_wp2_with fail
  refine (HDA.out _).mono ?_
  rintro e w2 ⟨⟨v, rfl, hown⟩, b2⟩
  obtain ⟨g, cap, rfl, _, _⟩ := hown.form (by omega)
  have HO := Lib.hid hown
  have C2 := Lib.hid (C1.out.trans (b2.mono C1.out.size))
  clear b2 C1 hown
  go_wp2_with fail
  refine (HFB.out _).mono ?_
  rintro e w3 ⟨rfl, b3⟩
  have C3 := Lib.hid (C2.out.trans (b3.mono C2.out.size))
  have HO3 := Lib.hid (HO.out.kept (Lib.grownBy_below (World.grownBy.refl w2 none) b3) (by simp [Value.ownBlock]))
  clear b3 C2 HO
  go_wp2_with fail
  refine (HDB.out _).mono ?_
  rintro e w4 ⟨⟨v, rfl, hown⟩, b4⟩
  obtain ⟨g2, cap2, rfl, _, _⟩ := hown.form (by omega)
  have HO4 := Lib.hid (HO3.out.kept (Lib.grownBy_below (World.grownBy.refl w3 none) b4) (by simp [Value.ownBlock]))
  have HOM := Lib.hid hown
  have C4 := Lib.hid (C3.out.trans (b4.mono C3.out.size))
  clear b4 C3 hown HO3
  go_wp2
  go_loopw [9, 10, 11] (fun v1 v2 i wr => ∃ k : Nat, ∃ x y : Bool, k ≤ 67 ∧ i = .int .i64 k ∧ v1 = .bool x ∧ v2 = .bool y ∧ x = lessTo l m k ∧ y = lessTo m l k ∧ Same w4 wr) (fun _ _ i _ => 67 - (intOf i).toNat)
  case atStart => exact ⟨0, false, false, by omega, rfl, rfl, rfl, rfl, rfl, Same.refl _⟩
  case round =>
    obtain ⟨k, x, y, hk, rfl, rfl, rfl, hx, hy, hs⟩ := hrel
    by_cases hlt : k < 67
    · have k1 := (hs.cell _).trans ((HO4.out.cellAt k (by omega)).trans (ints_get? l k (by have := HL.out; omega)))
      have k2 := (hs.cell _).trans ((HOM.out.cellAt k (by omega)).trans (ints_get? m k (by have := HM.out; omega)))
      have hx2 := lessTo_succ l m k
      have hy2 := lessTo_succ m l k
      rw [← hx] at hx2
      rw [← hy] at hy2
      generalize l.getD k 0 = X at *
      generalize m.getD k 0 = Y at *
      have HX := Lib.hid hx2
      have HY := Lib.hid hy2
      have HS := Lib.hid hs
      clear hx hy hx2 hy2 hs HO4 HOM HC
      rcases Nat.lt_trichotomy X Y with h | h | h
      · have e1 : decide (X < Y) = true := by simpa using h
        have e2 : decide (Y < X) = false := by simp; omega
        rw [e1] at HX
        rw [e2] at HY
        cases x <;> cases y
        all_goals
          clear e1 e2
          go_wp2
          go_quiet (fail)
          go_wp2
          go_quiet (fail)
          go_wp2
          go_roundw
          case rel => exact ⟨k + 1, _, _, by omega, by go_num, rfl, rfl, by rw [HX.out]; simp; try omega, by rw [HY.out]; simp; try omega, HS.out.drewN _⟩
          case measure => simp [intOf]; omega
      · subst h
        have e1 : decide (X < X) = false := by simp
        rw [e1] at HX HY
        cases x <;> cases y
        all_goals
          clear e1
          go_wp2
          go_quiet (fail)
          go_wp2
          go_quiet (fail)
          go_wp2
          go_roundw
          case rel => exact ⟨k + 1, _, _, by omega, by go_num, rfl, rfl, by rw [HX.out]; simp; try omega, by rw [HY.out]; simp; try omega, HS.out.drewN _⟩
          case measure => simp [intOf]; omega
      · have e1 : decide (Y < X) = true := by simpa using h
        have e2 : decide (X < Y) = false := by simp; omega
        rw [e2] at HX
        rw [e1] at HY
        cases x <;> cases y
        all_goals
          clear e1 e2
          go_wp2
          go_quiet (fail)
          go_wp2
          go_quiet (fail)
          go_wp2
          go_roundw
          case rel => exact ⟨k + 1, _, _, by omega, by go_num, rfl, rfl, by rw [HX.out]; simp; try omega, by rw [HY.out]; simp; try omega, HS.out.drewN _⟩
          case measure => simp [intOf]; omega
    · obtain rfl : k = 67 := by omega
      have C5 := Lib.hid (C4.out.trans (hs.below _))
      clear hs C4 HO4 HOM hlt hk
      rw [show ((67 : Nat) : Int) = 67 from rfl]
      rcases HC.out with rfl | ⟨h1, h2, h3⟩
      · clear HC hx hy
        cases x <;> cases y
        all_goals
          go_wp2_with fail
          refine (HFA.out _).mono ?_
          rintro e w6 ⟨rfl, b6⟩
          have C6 := Lib.hid (C5.out.trans (b6.mono C5.out.size))
          clear b6
          go_wp2_with fail
          refine (HFB.out _).mono ?_
          rintro e w7 ⟨rfl, b7⟩
          have C7 := Lib.hid (C6.out.trans (b7.mono C6.out.size))
          clear b7
          go_wp2_with fail
          refine (awake3_any _ (HT.out.below C7.out)).mono ?_
          rintro e w8 ⟨rfl, b8⟩
          go_wp2
          go_ret
          exact ⟨rfl, C7.out.trans (b8.mono C7.out.size)⟩
      · obtain rfl : x = true := by rw [hx, h2]
        obtain rfl : y = true := by rw [hy, h3]
        clear HC hx hy h2 h3
        go_wp2_with fail
        refine (HFA.out _).mono ?_
        rintro e w6 ⟨rfl, b6⟩
        have C6 := Lib.hid (C5.out.trans (b6.mono C5.out.size))
        clear b6
        go_wp2_with fail
        refine (HFB.out _).mono ?_
        rintro e w7 ⟨rfl, b7⟩
        have C7 := Lib.hid (C6.out.trans (b7.mono C6.out.size))
        clear b7
        go_wp2_with fail
        refine (awake3_any _ (HT.out.below C7.out)).mono ?_
        rintro e w8 ⟨rfl, b8⟩
        go_wp2
        go_ret
        exact ⟨rfl, C7.out.trans (b8.mono C7.out.size)⟩

theorem own : ownKnob Tryd.prog.godebug = none := by kernel_rfl
theorem laidOut : laidOutB Tryd.prog = true := by kernel_rfl

set_option maxRecDepth 100000 in
theorem contract (H : Type) (enc : TypeId × Value → H) (W : World) (base : Nat) (args : Array Value) (ds gs : List (DataW H)) (before : List MemPlace)
    (hval : ∀ (j : Nat) t v, Tryd.f13.params[j]? = some t → args[j]? = some v → Value.okWide Tryd.prog W .any base t v)
    (hW : DataW.Whole enc Tryd.prog Tryd.f13.params.toList Rows.wotsLowerSpec.vars false W args.toList ds gs before) (hL : laidMetH Tryd.prog Rows.wotsLowerRow.laid W) :
    Calls Tryd.prog 13 args W fun e W' => ∃ v, e = .returned v ∧ Rows.wotsLowerSpec.post enc Tryd.prog Tryd.f13 false true false false W args v W' := by
  have hW' := hW
  obtain ⟨p, q, hA0, hV, rfl, hfz, hnd⟩ := hW
  have hA : DataW.TrodAll enc Tryd.prog W 0 (fun _ => true) true Tryd.f13.params.toList args.toList ds p := hA0
  rw [Tryd.params13] at hA hval
  obtain ⟨v0, vs0, d0, ds0, p0, q0, hargs, rfl, rfl, h0, r0⟩ := trodAll_cons hA
  obtain ⟨v1, vs1, d1, ds1, p1, q1, rfl, rfl, rfl, h1, r1⟩ := trodAll_cons r0
  obtain ⟨rfl, rfl, rfl⟩ := trodAll_nil r1
  obtain rfl : args = #[v0, v1] := by cases args; simp_all
  obtain ⟨rfl, rfl⟩ := trodVars_none hV
  obtain ⟨a0, rfl, rfl, rfl, w0⟩ := open_string Tryd.underlying9 (hval 0 9 v0 rfl rfl) h0
  obtain ⟨a1, rfl, rfl, rfl, w1⟩ := open_string Tryd.underlying9 (hval 1 9 v1 rfl rfl) h1
  clear hA0
  refine (walk a0 a1 w0 w1 W (tabs_of_laid hL)).mono fun e W' ⟨he, bel⟩ => ?_
  subst he
  exact ⟨_, rfl, _, _, _, [], [], [], hW', trodAll_mk1 (shut_bool Tryd.underlying4 _), (trodAll_cons_mk (shut_string Tryd.underlying9 w0) (trodAll_cons_mk (shut_string Tryd.underlying9 w1) trodAll_mk0)), rfl, bel.frame _, fun h => by cases h⟩

theorem laid_met (os : Os) : laidMet Tryd.prog Rows.wotsLowerRow.laid (({ World.holding Tryd.prog os ⟨#[], #[], []⟩ with heap := ((World.holding Tryd.prog os ⟨#[], #[], []⟩).heap.modify 0 fun | .cells _ t frozen => .cells #[.int .u32 1779033703, .int .u32 3144134277, .int .u32 1013904242, .int .u32 2773480762, .int .u32 1359893119, .int .u32 2600822924, .int .u32 528734635, .int .u32 1541459225] t frozen | o => o).modify 1 fun | .cells _ t frozen => .cells #[.int .u32 1116352408, .int .u32 1899447441, .int .u32 3049323471, .int .u32 3921009573, .int .u32 961987163, .int .u32 1508970993, .int .u32 2453635748, .int .u32 2870763221, .int .u32 3624381080, .int .u32 310598401, .int .u32 607225278, .int .u32 1426881987, .int .u32 1925078388, .int .u32 2162078206, .int .u32 2614888103, .int .u32 3248222580, .int .u32 3835390401, .int .u32 4022224774, .int .u32 264347078, .int .u32 604807628, .int .u32 770255983, .int .u32 1249150122, .int .u32 1555081692, .int .u32 1996064986, .int .u32 2554220882, .int .u32 2821834349, .int .u32 2952996808, .int .u32 3210313671, .int .u32 3336571891, .int .u32 3584528711, .int .u32 113926993, .int .u32 338241895, .int .u32 666307205, .int .u32 773529912, .int .u32 1294757372, .int .u32 1396182291, .int .u32 1695183700, .int .u32 1986661051, .int .u32 2177026350, .int .u32 2456956037, .int .u32 2730485921, .int .u32 2820302411, .int .u32 3259730800, .int .u32 3345764771, .int .u32 3516065817, .int .u32 3600352804, .int .u32 4094571909, .int .u32 275423344, .int .u32 430227734, .int .u32 506948616, .int .u32 659060556, .int .u32 883997877, .int .u32 958139571, .int .u32 1322822218, .int .u32 1537002063, .int .u32 1747873779, .int .u32 1955562222, .int .u32 2024104815, .int .u32 2227730452, .int .u32 2361852424, .int .u32 2428436474, .int .u32 2756734187, .int .u32 3204031479, .int .u32 3329325298] t frozen | o => o } : World).forCall (fun _ _ => 0) ⟨#[], #[.string ByteArray.empty, .string ByteArray.empty], []⟩).memory :=
  laidMet_of_run' 8 (by kernel_rfl) (by kernel_rfl)
theorem reads (os : Os) {H : Type} (enc : TypeId × Value → H) : ∃ places, DataW.whole enc Tryd.prog (({ World.holding Tryd.prog os ⟨#[], #[], []⟩ with heap := ((World.holding Tryd.prog os ⟨#[], #[], []⟩).heap.modify 0 fun | .cells _ t frozen => .cells #[.int .u32 1779033703, .int .u32 3144134277, .int .u32 1013904242, .int .u32 2773480762, .int .u32 1359893119, .int .u32 2600822924, .int .u32 528734635, .int .u32 1541459225] t frozen | o => o).modify 1 fun | .cells _ t frozen => .cells #[.int .u32 1116352408, .int .u32 1899447441, .int .u32 3049323471, .int .u32 3921009573, .int .u32 961987163, .int .u32 1508970993, .int .u32 2453635748, .int .u32 2870763221, .int .u32 3624381080, .int .u32 310598401, .int .u32 607225278, .int .u32 1426881987, .int .u32 1925078388, .int .u32 2162078206, .int .u32 2614888103, .int .u32 3248222580, .int .u32 3835390401, .int .u32 4022224774, .int .u32 264347078, .int .u32 604807628, .int .u32 770255983, .int .u32 1249150122, .int .u32 1555081692, .int .u32 1996064986, .int .u32 2554220882, .int .u32 2821834349, .int .u32 2952996808, .int .u32 3210313671, .int .u32 3336571891, .int .u32 3584528711, .int .u32 113926993, .int .u32 338241895, .int .u32 666307205, .int .u32 773529912, .int .u32 1294757372, .int .u32 1396182291, .int .u32 1695183700, .int .u32 1986661051, .int .u32 2177026350, .int .u32 2456956037, .int .u32 2730485921, .int .u32 2820302411, .int .u32 3259730800, .int .u32 3345764771, .int .u32 3516065817, .int .u32 3600352804, .int .u32 4094571909, .int .u32 275423344, .int .u32 430227734, .int .u32 506948616, .int .u32 659060556, .int .u32 883997877, .int .u32 958139571, .int .u32 1322822218, .int .u32 1537002063, .int .u32 1747873779, .int .u32 1955562222, .int .u32 2024104815, .int .u32 2227730452, .int .u32 2361852424, .int .u32 2428436474, .int .u32 2756734187, .int .u32 3204031479, .int .u32 3329325298] t frozen | o => o } : World).forCall (fun _ _ => 0) ⟨#[], #[.string ByteArray.empty, .string ByteArray.empty], []⟩).memory Tryd.f13.params.toList Rows.wotsLowerSpec.vars false (#[.string ByteArray.empty, .string ByteArray.empty] : Array Value).toList 8 = some ([.lit (.string []), .lit (.string [])], [], places) :=
  ⟨[], by kernel_rfl⟩

set_option maxRecDepth 100000 in
theorem lifted (os : Os) (started : os.Started) (H : Type) (enc : TypeId × Value → H) (F : Stop.Interp) :
    ReturnsInHanded {} Tryd.checked os 13 .any ((OpenSpec.ofChange Rows.wotsLowerSpec).preRow enc Tryd.prog Tryd.f13 Rows.wotsLowerRow.domain false Rows.wotsLowerRow.laid) (((OpenSpec.ofChange Rows.wotsLowerSpec).at F).post enc Tryd.prog Tryd.f13 false true false false) := by
  obtain ⟨places, hx⟩ := reads os enc
  refine returnsInHanded_of_row (C := Tryd.checked) (s := OpenSpec.ofChange Rows.wotsLowerSpec) own started (by kernel_rfl) Tryd.func13
    (witness_row_at (enc := enc) (C := Tryd.checked) false ({ World.holding Tryd.prog os ⟨#[], #[], []⟩ with heap := ((World.holding Tryd.prog os ⟨#[], #[], []⟩).heap.modify 0 fun | .cells _ t frozen => .cells #[.int .u32 1779033703, .int .u32 3144134277, .int .u32 1013904242, .int .u32 2773480762, .int .u32 1359893119, .int .u32 2600822924, .int .u32 528734635, .int .u32 1541459225] t frozen | o => o).modify 1 fun | .cells _ t frozen => .cells #[.int .u32 1116352408, .int .u32 1899447441, .int .u32 3049323471, .int .u32 3921009573, .int .u32 961987163, .int .u32 1508970993, .int .u32 2453635748, .int .u32 2870763221, .int .u32 3624381080, .int .u32 310598401, .int .u32 607225278, .int .u32 1426881987, .int .u32 1925078388, .int .u32 2162078206, .int .u32 2614888103, .int .u32 3248222580, .int .u32 3835390401, .int .u32 4022224774, .int .u32 264347078, .int .u32 604807628, .int .u32 770255983, .int .u32 1249150122, .int .u32 1555081692, .int .u32 1996064986, .int .u32 2554220882, .int .u32 2821834349, .int .u32 2952996808, .int .u32 3210313671, .int .u32 3336571891, .int .u32 3584528711, .int .u32 113926993, .int .u32 338241895, .int .u32 666307205, .int .u32 773529912, .int .u32 1294757372, .int .u32 1396182291, .int .u32 1695183700, .int .u32 1986661051, .int .u32 2177026350, .int .u32 2456956037, .int .u32 2730485921, .int .u32 2820302411, .int .u32 3259730800, .int .u32 3345764771, .int .u32 3516065817, .int .u32 3600352804, .int .u32 4094571909, .int .u32 275423344, .int .u32 430227734, .int .u32 506948616, .int .u32 659060556, .int .u32 883997877, .int .u32 958139571, .int .u32 1322822218, .int .u32 1537002063, .int .u32 1747873779, .int .u32 1955562222, .int .u32 2024104815, .int .u32 2227730452, .int .u32 2361852424, .int .u32 2428436474, .int .u32 2756734187, .int .u32 3204031479, .int .u32 3329325298] t frozen | o => o } : World) #[.string ByteArray.empty, .string ByteArray.empty] rfl (by kernel_rfl) (by kernel_rfl) (by kernel_rfl)
      (OpenSpec.preRow_of_cond 8 hx (by kernel_rfl) (fun k hk => by cases hk) (by kernel_rfl) (laid_met os))) ?_
  intro W base args ds gs before hval hW _ _ _ hL _ _
  exact contract H enc W base args ds gs before hval hW hL

theorem said : Rows.WotsLowerSaid :=
  OpenClaim.holds_of_cond 13 Tryd.f13 rfl rfl rfl rfl rfl rfl rfl ⟨rfl, rfl, rfl, rfl, rfl⟩ rfl rfl rfl rfl rfl (by kernel_rfl) Tryd.func13 (by kernel_rfl)
    (of_decide_eq_true (by kernel_rfl)) (by unfold Func.isWrapper; first | (rw [if_pos (by decide +kernel)]; kernel_rfl) | (rw [if_neg (by decide +kernel)]; exact ⟨rfl, rfl⟩))
    (fun os started H enc _ F => by rw [OpenClaim.pre_eq_preRow]; exact lifted os started H enc F)

theorem plain (f : FuncId) (fn : Func) (hf : Tryd.pinned.checked.prog.funcNamed Rows.wotsLowerRow.func = some f) (hfn : Tryd.pinned.checked.prog.funcs[f]? = some fn) :
    false = Tryd.pinned.checked.prog.looks [] ∧ ∀ (j : Nat) t, fn.params[j]? = some t → Tryd.pinned.checked.prog.wantsStandIn t = false := by
  obtain rfl : f = 13 := Option.some.inj ((show Tryd.prog.funcNamed Rows.wotsLowerRow.func = some 13 by kernel_rfl).symm.trans hf) |>.symm
  obtain rfl : fn = Tryd.f13 := (Option.some.inj (Tryd.func13.symm.trans hfn)).symm
  refine ⟨by kernel_rfl, fun j t ht => ?_⟩
  rw [Tryd.params13] at ht
  have hm : t = 9 := by first | simpa using Array.mem_of_getElem? ht | (have h := Array.mem_of_getElem? ht; simp only [List.mem_toArray, List.mem_cons, List.not_mem_nil, or_false] at h; rcases h with rfl | rfl <;> simp)
  rcases hm with rfl
  · exact (show Tryd.prog.wantsStandIn 9 = false by kernel_rfl)

theorem card : Rows.WotsLowerCardSaid :=
  Claim7.holds_tied_plain_at .later [] _ _ _ _ said (fun _ h => by cases h) (by kernel_rfl) (fun _ h => by cases h) wotsLower_row_tie rfl ⟨rfl, rfl⟩ (by kernel_rfl) rfl plain (by kernel_rfl)

end Go.Proofs.YtkpcobahkpiogaaDoor.WotsLower
namespace Go.Proofs.YtkpcobahkpiogaaDoor
theorem wotsLower_card : Rows.WotsLowerCardSaid := WotsLower.card
#print axioms wotsLower_card
end Go.Proofs.YtkpcobahkpiogaaDoor

