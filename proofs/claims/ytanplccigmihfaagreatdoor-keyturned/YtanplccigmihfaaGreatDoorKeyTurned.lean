/-
  P5.3: a signature in which one byte of a value, or of the path, is another one isn't right, or else two unlike texts that were summed on the ways have one digest: for every text as a seed, every int made a height, every text as a message, every int made a place, and every byte.
  The tables of the program start as its text lays them (the card ties them).
-/
import Derived.Test.YtanplccigmihfaaGreatDoorLaid
import Derived.Test.YtanplccigmihfaaGreatDoorB11
import Derived.ProofKit
import Derived.OpenShut
import Derived.ShutString
import Derived.ChangeOld
import Derived.SevenTiedAt
import Derived.SliceStrings
namespace Go.Proofs.YtanplccigmihfaaGreatDoor.KeyTurned
open Go.ChangeShapes Go.WideShapes Go.ChangeAt Go.RowKit Go.Pal
open Go.ChangeMaps (open_string shut_string)
set_option linter.unusedVariables false

theorem sig_ok (seed : ByteArray) (h leaf : Nat) (m : ByteArray) (hh : h ≤ 4) (hl : leaf < 2 ^ h) : SigOk (sigB seed h leaf m) h leaf :=
  ⟨hh, sigB_size _ _ _ _ hl, (sig_leaf _ _ _ _ (by have := pow_le16 h hh; omega)).symm, hl⟩
theorem sig_right (seed : ByteArray) (h leaf : Nat) (m : ByteArray) (hl : leaf < 2 ^ h) : sigTop m (sigB seed h leaf m) h leaf = keyB seed h := by
  rw [sigTop, sig_vals, sig_path _ _ _ _ hl, signed_top _ _ _ _ hl, keyB]
theorem turn_ok (s : ByteArray) (h leaf i : Nat) (b : UInt8) (hs : SigOk s h leaf) (h2 : 2 ≤ i) (hi : i < s.size) : SigOk (turnB s i b) h leaf :=
  ⟨hs.hh, by rw [turnB_size _ _ _ hi]; exact hs.hz, by rw [turnB_head _ _ _ hi h2]; exact hs.hl, hs.lt⟩
/-- Two signatures of one leaf that are unlike and right for one message. -/
theorem two_right (m s t : ByteArray) (h leaf : Nat) (hs : SigOk s h leaf) (ht : SigOk t h leaf) (hd : s.extract 0 2 = t.extract 0 2) (hne : s ≠ t) (h1 : sigTop m s h leaf = sigTop m t h leaf) :
    ∃ a b, a ∈ roadV m (cutL s 2 67) leaf (cutL s 2146 h) ∧ b ∈ roadV m (cutL t 2 67) leaf (cutL t 2146 h) ∧ a ≠ b ∧ shaB a = shaB b := by
  have hz := hs.hz
  have hz2 := ht.hz
  refine turned_clash m _ _ _ _ leaf h (cutL_length _ _ _) (cutL_length _ _ _) (cutL_length _ _ _) (cutL_length _ _ _) (cutL_32 s 2 67 (by omega)).small (cutL_32 t 2 67 (by omega)).small (cutL_32 s 2146 h (by omega)).small (cutL_32 t 2146 h (by omega)).small ?_ h1
  apply Classical.byContradiction
  intro hno
  have hv : cutL s 2 67 = cutL t 2 67 := Classical.byContradiction fun e => hno (.inl e)
  have hp : cutL s 2146 h = cutL t 2146 h := Classical.byContradiction fun e => hno (.inr e)
  apply hne
  rw [sig_parts s h hz, sig_parts t h hz2, hd, hv, hp]

set_option maxHeartbeats 4000000 in
set_option maxRecDepth 100000 in
theorem walk (s : ByteArray) (h : Int) (m : ByteArray) (at_ bt : Int) (hs : s.size ≤ maxLen) (wh : (Lit.int .i64 h).wf = true) (hm : m.size ≤ maxLen) (wa : (Lit.int .i64 at_).wf = true) (wb : (Lit.int .u8 bt).wf = true) (w : World) (ht : Tabs w) :
    Calls Tryz.prog 7 #[.string s, .int .i64 h, .string m, .int .i64 at_, .int .u8 bt] w fun e w' => e = .returned (.bool true) ∧ Below w.heap.size w w' := by
  have bb := bounds_u8 wb
  have HAW := Lib.hid (fun (W : World) (hb : Below w.heap.size w W) => awake5 W (ht.below hb))
  have HT := Lib.hid ht
  have hnot : ∀ (x : Bool) (w : World), (Op.unary .not (.bool x)).run Tryz.prog w = .ok (.bool (!x)) w := fun _ _ => rfl
  clear ht wh wa wb hs hm
  by_cases h1 : 300 < s.size
  · go_enter Tryz.func7, Tryz.ntmps7
    go_wp2_with (first | (go_at_call 10; refine (long5 _ _).mono ?_; rintro e w1 ⟨rfl, rfl⟩) | (go_at_call 11; refine (HAW.out _ (Below.refl _ _)).mono ?_; rintro e w1 ⟨rfl, b1⟩))
    go_ret
    exact ⟨rfl, b1⟩
  by_cases h2 : 300 < m.size
  · go_enter Tryz.func7, Tryz.ntmps7
    go_wp2_with (first | (go_at_call 10; refine (long5 _ _).mono ?_; rintro e w1 ⟨rfl, rfl⟩) | (go_at_call 11; refine (HAW.out _ (Below.refl _ _)).mono ?_; rintro e w1 ⟨rfl, b1⟩))
    go_ret
    exact ⟨rfl, b1⟩
  have hH := smallN_le h
  have HSM := Lib.hid (fun W => small5 h W)
  generalize smallN h = H at *
  have hpos := Nat.two_pow_pos H
  have hn := fun W => new_yes W s H 0 (by omega) (by omega) (by omega)
  rw [show ((0 : Nat) : Int) = 0 from rfl] at hn
  have HN := Lib.hid hn
  have hsg := fun W b hT (hK : KeyFresh W b s H 0) => sign_any W b s H 0 m (by omega) hpos (by omega) (by omega) hT (.inl hK)
  have HPG := Lib.hid (fun W b (hK : KeyGrown W b s H ((0 + 1 : Nat) : Int)) => public_grown W b s H _ hK)
  have hok := sig_ok s H 0 m (by omega) hpos
  have hrt := sig_right s H 0 m hpos
  generalize hS : sigB s H 0 m = S at *
  have hzS : S.size = 2 + 32 * (67 + H) := hok.hz
  have hS3 : ¬ S.size < 3 := by omega
  have hS2 : ¬ (S.size : Int) < 3 := by omega
  -- the place
  obtain ⟨A, hA⟩ : ∃ A : Nat, (A : Int) = (at_ % 18446744073709551616) % ((S.size : Int) - 2) := ⟨((at_ % 18446744073709551616) % ((S.size : Int) - 2)).toNat, by
    have := Int.emod_nonneg (at_ % 18446744073709551616) (show ((S.size : Int) - 2) ≠ 0 by omega)
    omega⟩
  have hAlt : A < S.size - 2 := by
    have := Int.emod_lt_of_pos (at_ % 18446744073709551616) (show (0 : Int) < ((S.size : Int) - 2) by omega)
    omega
  obtain ⟨B, rfl⟩ : ∃ B : Nat, bt = B := ⟨bt.toNat, by omega⟩
  have htok := turn_ok S H 0 (2 + A) (UInt8.ofNat B) hok (by omega) (by omega)
  have hth := turnB_head S (2 + A) (UInt8.ofNat B) (by omega) (by omega)
  have HSG := Lib.hid hsg
  go_enter Tryz.func7, Tryz.ntmps7
  go_wp2_with (first | (go_at_call 10; refine (long5 _ _).mono ?_; rintro e w1 ⟨rfl, rfl⟩) | (go_at_call 11; refine (HAW.out _ (Below.refl _ _)).mono ?_; rintro e w1 ⟨rfl, b1⟩) | (go_at_call 17; refine (HSM.out _).mono ?_; rintro e w2 ⟨rfl, rfl⟩))
  refine (HN.out _).mono ?_
  rintro e w3 ⟨⟨b, rfl, k3, hb⟩, b3⟩
  have hb0 := Nat.le_trans b1.size hb
  have B3 := Lib.hid (b1.trans (b3.mono b1.size))
  have HS3 := Lib.hid (HSG.out w3 b (TabsK.of HT.out B3.out hb0) k3)
  have HB0 := Lib.hid hb0
  clear k3 b1 b3 HN HSM HAW HSG hb hb0 hsg hn
  go_wp2_with fail
  refine HS3.out.mono ?_
  rintro e w4 ⟨rfl, k4, g4⟩
  have B4 := Lib.hid (B3.out.grown g4 B3.out.size (fun k hk => by cases hk; exact HB0.out))
  have K4 := Lib.hid k4
  clear k4 g4 HS3
  have HZS := Lib.hid hzS
  have hz1 : (2 : Int) ≤ (S.size : Int) := by omega
  have hz4 : S.size ≤ 5000 := by omega
  obtain ⟨I, hI⟩ : ∃ I, I = 2 + A := ⟨_, rfl⟩
  have HI := Lib.hid hI
  have hIz : I + 1 ≤ S.size := by omega
  have hI2 : 2 ≤ I := by omega
  rw [← hI] at htok hth
  have HTO := Lib.hid htok
  have HTH := Lib.hid hth
  have HOK := Lib.hid hok
  have HRT := Lib.hid hrt
  clear hzS hok htok hth hS hrt hI
  have hplace : wrap64 (2 + wrap64 ((IntKind.u64.wrap at_).tmod ((S.size : Int) - 2))) = (I : Int) := by
    rw [IntKind.wrap_u64, Int.tmod_eq_emod_of_nonneg (by omega), ← hA, IntWalk.wrap64_in (A : Int) ⟨by omega, by omega⟩, IntWalk.wrap64_in _ ⟨by omega, by omega⟩]
    have := HI.out
    omega
  have HPL := Lib.hid hplace
  clear hplace
  go_wp2
  rw [HPL.out]
  clear hA hAlt HI
  have hw : IntKind.i64.wrap ((I : Int) + 1) = (I : Int) + 1 := by rw [IntKind.wrap_i64]; omega
  have hn1 : ((I : Int) + 1).toNat = I + 1 := by omega
  have hi0 : (0 : Int) ≤ (I : Int) := by omega
  have hi1 : (I : Int) ≤ (S.size : Int) := by omega
  have hi2 : (I : Int) + 1 ≤ (S.size : Int) := by omega
  have hi3 : (0 : Int) ≤ (I : Int) + 1 := by omega
  have hi4 : I ≤ S.size := by omega
  have zz1 : (S.extract 0 I).size ≤ 5000 := by rw [ByteArray.size_extract]; omega
  have zz2 : (S.extract (I + 1) S.size).size ≤ 5000 := by rw [ByteArray.size_extract]; omega
  have hcv : (convert 46 9 (.slice (some ⟨w4.heap.size, 0, none⟩) 1 1)).run Tryz.prog (w4.alloc (.cells #[.int .u8 (B : Int)] 5)).drew = .ok (.string ⟨#[UInt8.ofNat B]⟩) (w4.alloc (.cells #[.int .u8 (B : Int)] 5)).drew := by
    have := conv_one w4.drew w4.heap.size (B : Int) rfl
    rw [Int.toNat_natCast] at this
    exact this
  have zz3 : (⟨#[UInt8.ofNat B]⟩ : ByteArray).size = 1 := rfl
  have zz4 : (S.extract 0 I ++ ⟨#[UInt8.ofNat B]⟩).size ≤ 6000 := by rw [ByteArray.size_append, zz3]; omega
  go_region_with (fail)
  have B5 := Lib.hid ((B4.out.alloc B4.out.size (.cells #[.int .u8 (B : Int)] 5)).drew)
  have K5 := Lib.hid (K4.out.below (((Below.refl w4.heap.size w4).alloc (Nat.le_refl _) (.cells #[.int .u8 (B : Int)] 5)).drew))
  clear hcv zz1 zz2 zz3 zz4 hw hn1 hi0 hi1 hi2 hi3 hi4 B4 K4
  generalize (w4.alloc (.cells #[.int .u8 (B : Int)] 5)).drew = W5 at *
  have HVT := Lib.hid (fun W hT => verify_yes W (keyB s H) m _ H 0 HTO.out (by omega) hT)
  have HR1 := Lib.hid (fun W => refverify_yes W (keyB s H) m S H 0 HOK.out (by omega))
  have HR2 := Lib.hid (fun W => refverify_yes W (keyB s H) m _ H 0 HTO.out (by omega))
  have HCL := Lib.hid (fun hne h1 => clash_ex _ _ (two_right m S (turnB S I (UInt8.ofNat B)) H 0 HOK.out HTO.out HTH.out.symm hne h1))
  have l1 := roadV_length m (cutL S 2 67) 0 (cutL S 2146 H) (by rw [cutL_length]; omega)
  have l2 := roadV_length m (cutL (turnB S I (UInt8.ofNat B)) 2 67) 0 (cutL (turnB S I (UInt8.ofNat B)) 2146 H) (by rw [cutL_length]; omega)
  have hzT := HTO.out.hz
  have hzS := HZS.out
  have r1 := roadV_le m (cutL S 2 67) 0 (cutL S 2146 H) (by omega) (cutL_length _ _ _) (cutL_32 S 2 67 (by omega)) (cutL_32 S 2146 H (by omega))
  have r2 := roadV_le m (cutL (turnB S I (UInt8.ofNat B)) 2 67) 0 (cutL (turnB S I (UInt8.ofNat B)) 2146 H) (by omega) (cutL_length _ _ _) (cutL_32 _ 2 67 (by omega)) (cutL_32 _ 2146 H (by omega))
  rw [HRT.out] at HCL
  rw [HRT.out, (beqT _ _).2 rfl] at HR1
  rw [show S.extract 0 I ++ ⟨#[UInt8.ofNat B]⟩ ++ S.extract (I + 1) S.size = turnB S I (UInt8.ofNat B) from rfl]
  generalize roadV m (cutL S 2 67) 0 (cutL S 2146 H) = R1 at *
  generalize roadV m (cutL (turnB S I (UInt8.ofNat B)) 2 67) 0 (cutL (turnB S I (UInt8.ofNat B)) 2146 H) = R2 at *
  generalize sigTop m (turnB S I (UInt8.ofNat B)) H 0 = TOP at *
  generalize turnB S I (UInt8.ofNat B) = T at *
  have HBO := Lib.hid (fun W g1 c1 g2 c2 h1 h2 => both_any W g1 0 c1 g2 0 c2 R1 R2 l1.2 l2.2 l1.1 l2.1 h1 h2)
  have hct := fun W g c h1 => clash5 W g 0 c (R1 ++ R2) (by rw [List.length_append]; omega) h1 (getD_all _ _ (fun p hp => by
    rcases List.mem_append.1 hp with h | h
    · exact r1 p h
    · exact r2 p h))
  rw [List.length_append] at hct
  have HCT := Lib.hid hct
  generalize keyB s H = KB at *
  clear hct r1 r2 l1 l2 hzT hzS HZS HOK HTO HTH HRT hIz hI2 hz1 hz4 hS3 hS2 bb HPL hpos
  by_cases hTS : T = S
  · subst hTS
    go_wp2
    go_ret
    exact ⟨rfl, B5.out⟩
  have hTF := beqF hTS
  have HP5 := Lib.hid (HPG.out W5 b K5.out)
  by_cases hX : TOP = KB
  · have hex := HCL.out (fun e => hTS e.symm) hX.symm
    have HEX := Lib.hid hex
    subst hX
    rw [(beqT _ _).2 rfl] at HVT HR2
    clear HCL hex hTS
    go_wp2_with fail
    refine HP5.out.mono ?_
    rintro e w6 ⟨rfl, b6⟩
    have B6 := Lib.hid (B5.out.trans (b6.mono B5.out.size))
    have K6 := Lib.hid (K5.out.below b6)
    have HV6 := Lib.hid (HVT.out w6 (HT.out.below B6.out))
    clear b6 HP5 HVT
    go_wp2_with fail
    refine HV6.out.mono ?_
    rintro e w7 ⟨rfl, b7⟩
    have B7 := Lib.hid (B6.out.trans (b7.mono B6.out.size))
    have K7 := Lib.hid (K6.out.below b7)
    have HP7 := Lib.hid (HPG.out w7 b K7.out)
    clear b7 HV6
    go_wp2_with fail
    refine HP7.out.mono ?_
    rintro e w8 ⟨rfl, b8⟩
    have B8 := Lib.hid (B7.out.trans (b8.mono B7.out.size))
    have K8 := Lib.hid (K7.out.below b8)
    clear b8 HP7
    go_wp2_with fail
    refine (HR1.out w8).mono ?_
    rintro e w9 ⟨⟨g1, n1, c1, rfl, rfl, q1⟩, b9⟩
    have B9 := Lib.hid (B8.out.trans (b9.mono B8.out.size))
    have K9 := Lib.hid (K8.out.below b9)
    have HP9 := Lib.hid (HPG.out w9 b K9.out)
    have Q1 := Lib.hid q1
    clear b9 q1 HR1
    go_wp2_with fail
    refine HP9.out.mono ?_
    rintro e w10 ⟨rfl, b10⟩
    have B10 := Lib.hid (B9.out.trans (b10.mono B9.out.size))
    have Q2 := Lib.hid (Q1.out.below b10)
    clear b10 HP9 Q1
    go_wp2_with fail
    refine (HR2.out w10).mono ?_
    rintro e w11 ⟨⟨g2, n2, c2, rfl, rfl, q2⟩, b11⟩
    have B11 := Lib.hid (B10.out.trans (b11.mono B10.out.size))
    have HBO2 := Lib.hid (HBO.out w11 g1 c1 g2 c2 (Q2.out.below b11) q2)
    clear b11 q2 HR2
    go_wp2_with fail
    refine HBO2.out.mono ?_
    rintro e w12 ⟨⟨g3, c3, rfl, q3⟩, b12⟩
    have B12 := Lib.hid (B11.out.trans (b12.mono B11.out.size))
    have HCT2 := Lib.hid (HCT.out w12 g3 c3 q3)
    clear b12 q3 HBO2
    go_wp2_with fail
    refine HCT2.out.mono ?_
    rintro e w13 ⟨⟨v, rfl, bv, rfl, hbv⟩, b13⟩
    have B13 := Lib.hid (B12.out.trans (b13.mono B12.out.size))
    obtain rfl := hbv HEX.out
    clear b13 hbv
    go_wp2
    go_ret
    exact ⟨rfl, B13.out⟩
  · have hXF := beqF hX
    rw [hXF] at HVT
    clear HCL hTS hX HR1 HR2 HCT HBO
    go_wp2_with fail
    refine HP5.out.mono ?_
    rintro e w6 ⟨rfl, b6⟩
    have B6 := Lib.hid (B5.out.trans (b6.mono B5.out.size))
    have HV6 := Lib.hid (HVT.out w6 (HT.out.below B6.out))
    clear b6 HP5 HVT
    go_wp2_with fail
    refine HV6.out.mono ?_
    rintro e w7 ⟨rfl, b7⟩
    have B7 := Lib.hid (B6.out.trans (b7.mono B6.out.size))
    clear b7 HV6
    go_wp2
    go_ret
    exact ⟨rfl, B7.out⟩

theorem own : ownKnob Tryz.prog.godebug = none := by kernel_rfl
theorem laidOut : laidOutB Tryz.prog = true := by kernel_rfl

set_option maxRecDepth 100000 in
theorem contract (H : Type) (enc : TypeId × Value → H) (W : World) (base : Nat) (args : Array Value) (ds gs : List (DataW H)) (before : List MemPlace)
    (hval : ∀ (j : Nat) t v, Tryz.f7.params[j]? = some t → args[j]? = some v → Value.okWide Tryz.prog W .any base t v)
    (hW : DataW.Whole enc Tryz.prog Tryz.f7.params.toList Rows.keyTurnedSpec.vars false W args.toList ds gs before) (hL : laidMetH Tryz.prog Rows.keyTurnedRow.laid W) :
    Calls Tryz.prog 7 args W fun e W' => ∃ v, e = .returned v ∧ Rows.keyTurnedSpec.post enc Tryz.prog Tryz.f7 false true false false W args v W' := by
  have hW' := hW
  obtain ⟨p, q, hA0, hV, rfl, hfz, hnd⟩ := hW
  have hA : DataW.TrodAll enc Tryz.prog W 0 (fun _ => true) true Tryz.f7.params.toList args.toList ds p := hA0
  rw [Tryz.params7] at hA hval
  obtain ⟨v0, vs0, d0, ds0, p0, q0, hargs, rfl, rfl, h0, r0⟩ := trodAll_cons hA
  obtain ⟨v1, vs1, d1, ds1, p1, q1, rfl, rfl, rfl, h1, r1⟩ := trodAll_cons r0
  obtain ⟨v2, vs2, d2, ds2, p2, q2, rfl, rfl, rfl, h2, r2⟩ := trodAll_cons r1
  obtain ⟨v3, vs3, d3, ds3, p3, q3, rfl, rfl, rfl, h3, r3⟩ := trodAll_cons r2
  obtain ⟨v4, vs4, d4, ds4, p4, q4, rfl, rfl, rfl, h4, r4⟩ := trodAll_cons r3
  obtain ⟨rfl, rfl, rfl⟩ := trodAll_nil r4
  obtain rfl : args = #[v0, v1, v2, v3, v4] := by cases args; simp_all
  obtain ⟨rfl, rfl⟩ := trodVars_none hV
  obtain ⟨a0, rfl, rfl, rfl, w0⟩ := open_string Tryz.underlying9 (hval 0 9 v0 rfl rfl) h0
  obtain ⟨a1, rfl, rfl, rfl, w1⟩ := open_int Tryz.underlying3 (hval 1 3 v1 rfl rfl) h1
  obtain ⟨a2, rfl, rfl, rfl, w2⟩ := open_string Tryz.underlying9 (hval 2 9 v2 rfl rfl) h2
  obtain ⟨a3, rfl, rfl, rfl, w3⟩ := open_int Tryz.underlying3 (hval 3 3 v3 rfl rfl) h3
  obtain ⟨a4, rfl, rfl, rfl, w4⟩ := open_int Tryz.underlying5 (hval 4 5 v4 rfl rfl) h4
  clear hA0
  refine (walk a0 a1 a2 a3 a4 w0 w1 w2 w3 w4 W (tabs_of_laid hL)).mono fun e W' ⟨he, bel⟩ => ?_
  subst he
  exact ⟨_, rfl, _, _, _, [], [], [], hW', trodAll_mk1 (shut_bool Tryz.underlying4 _), (trodAll_cons_mk (shut_string Tryz.underlying9 w0) (trodAll_cons_mk (shut_int Tryz.underlying3 w1) (trodAll_cons_mk (shut_string Tryz.underlying9 w2) (trodAll_cons_mk (shut_int Tryz.underlying3 w3) (trodAll_cons_mk (shut_int Tryz.underlying5 w4) trodAll_mk0))))), rfl, bel.frame _, fun h => by cases h⟩

theorem laid_met (os : Os) : laidMet Tryz.prog Rows.keyTurnedRow.laid (({ World.holding Tryz.prog os ⟨#[], #[], []⟩ with heap := ((World.holding Tryz.prog os ⟨#[], #[], []⟩).heap.modify 0 fun | .cells _ t frozen => .cells #[.int .u32 1779033703, .int .u32 3144134277, .int .u32 1013904242, .int .u32 2773480762, .int .u32 1359893119, .int .u32 2600822924, .int .u32 528734635, .int .u32 1541459225] t frozen | o => o).modify 1 fun | .cells _ t frozen => .cells #[.int .u32 1116352408, .int .u32 1899447441, .int .u32 3049323471, .int .u32 3921009573, .int .u32 961987163, .int .u32 1508970993, .int .u32 2453635748, .int .u32 2870763221, .int .u32 3624381080, .int .u32 310598401, .int .u32 607225278, .int .u32 1426881987, .int .u32 1925078388, .int .u32 2162078206, .int .u32 2614888103, .int .u32 3248222580, .int .u32 3835390401, .int .u32 4022224774, .int .u32 264347078, .int .u32 604807628, .int .u32 770255983, .int .u32 1249150122, .int .u32 1555081692, .int .u32 1996064986, .int .u32 2554220882, .int .u32 2821834349, .int .u32 2952996808, .int .u32 3210313671, .int .u32 3336571891, .int .u32 3584528711, .int .u32 113926993, .int .u32 338241895, .int .u32 666307205, .int .u32 773529912, .int .u32 1294757372, .int .u32 1396182291, .int .u32 1695183700, .int .u32 1986661051, .int .u32 2177026350, .int .u32 2456956037, .int .u32 2730485921, .int .u32 2820302411, .int .u32 3259730800, .int .u32 3345764771, .int .u32 3516065817, .int .u32 3600352804, .int .u32 4094571909, .int .u32 275423344, .int .u32 430227734, .int .u32 506948616, .int .u32 659060556, .int .u32 883997877, .int .u32 958139571, .int .u32 1322822218, .int .u32 1537002063, .int .u32 1747873779, .int .u32 1955562222, .int .u32 2024104815, .int .u32 2227730452, .int .u32 2361852424, .int .u32 2428436474, .int .u32 2756734187, .int .u32 3204031479, .int .u32 3329325298] t frozen | o => o } : World).forCall (fun _ _ => 0) ⟨#[], #[.string ByteArray.empty, .int .i64 0, .string ByteArray.empty, .int .i64 0, .int .u8 0], []⟩).memory :=
  laidMet_of_run' 8 (by kernel_rfl) (by kernel_rfl)
theorem reads (os : Os) {H : Type} (enc : TypeId × Value → H) : ∃ places, DataW.whole enc Tryz.prog (({ World.holding Tryz.prog os ⟨#[], #[], []⟩ with heap := ((World.holding Tryz.prog os ⟨#[], #[], []⟩).heap.modify 0 fun | .cells _ t frozen => .cells #[.int .u32 1779033703, .int .u32 3144134277, .int .u32 1013904242, .int .u32 2773480762, .int .u32 1359893119, .int .u32 2600822924, .int .u32 528734635, .int .u32 1541459225] t frozen | o => o).modify 1 fun | .cells _ t frozen => .cells #[.int .u32 1116352408, .int .u32 1899447441, .int .u32 3049323471, .int .u32 3921009573, .int .u32 961987163, .int .u32 1508970993, .int .u32 2453635748, .int .u32 2870763221, .int .u32 3624381080, .int .u32 310598401, .int .u32 607225278, .int .u32 1426881987, .int .u32 1925078388, .int .u32 2162078206, .int .u32 2614888103, .int .u32 3248222580, .int .u32 3835390401, .int .u32 4022224774, .int .u32 264347078, .int .u32 604807628, .int .u32 770255983, .int .u32 1249150122, .int .u32 1555081692, .int .u32 1996064986, .int .u32 2554220882, .int .u32 2821834349, .int .u32 2952996808, .int .u32 3210313671, .int .u32 3336571891, .int .u32 3584528711, .int .u32 113926993, .int .u32 338241895, .int .u32 666307205, .int .u32 773529912, .int .u32 1294757372, .int .u32 1396182291, .int .u32 1695183700, .int .u32 1986661051, .int .u32 2177026350, .int .u32 2456956037, .int .u32 2730485921, .int .u32 2820302411, .int .u32 3259730800, .int .u32 3345764771, .int .u32 3516065817, .int .u32 3600352804, .int .u32 4094571909, .int .u32 275423344, .int .u32 430227734, .int .u32 506948616, .int .u32 659060556, .int .u32 883997877, .int .u32 958139571, .int .u32 1322822218, .int .u32 1537002063, .int .u32 1747873779, .int .u32 1955562222, .int .u32 2024104815, .int .u32 2227730452, .int .u32 2361852424, .int .u32 2428436474, .int .u32 2756734187, .int .u32 3204031479, .int .u32 3329325298] t frozen | o => o } : World).forCall (fun _ _ => 0) ⟨#[], #[.string ByteArray.empty, .int .i64 0, .string ByteArray.empty, .int .i64 0, .int .u8 0], []⟩).memory Tryz.f7.params.toList Rows.keyTurnedSpec.vars false (#[.string ByteArray.empty, .int .i64 0, .string ByteArray.empty, .int .i64 0, .int .u8 0] : Array Value).toList 8 = some ([.lit (.string []), .lit (.int .i64 0), .lit (.string []), .lit (.int .i64 0), .lit (.int .u8 0)], [], places) :=
  ⟨[], by kernel_rfl⟩

set_option maxRecDepth 100000 in
theorem lifted (os : Os) (started : os.Started) (H : Type) (enc : TypeId × Value → H) (F : Stop.Interp) :
    ReturnsInHanded {} Tryz.checked os 7 .any ((OpenSpec.ofChange Rows.keyTurnedSpec).preRow enc Tryz.prog Tryz.f7 Rows.keyTurnedRow.domain false Rows.keyTurnedRow.laid) (((OpenSpec.ofChange Rows.keyTurnedSpec).at F).post enc Tryz.prog Tryz.f7 false true false false) := by
  obtain ⟨places, hx⟩ := reads os enc
  refine returnsInHanded_of_row (C := Tryz.checked) (s := OpenSpec.ofChange Rows.keyTurnedSpec) own started (by kernel_rfl) Tryz.func7
    (witness_row_at (enc := enc) (C := Tryz.checked) false ({ World.holding Tryz.prog os ⟨#[], #[], []⟩ with heap := ((World.holding Tryz.prog os ⟨#[], #[], []⟩).heap.modify 0 fun | .cells _ t frozen => .cells #[.int .u32 1779033703, .int .u32 3144134277, .int .u32 1013904242, .int .u32 2773480762, .int .u32 1359893119, .int .u32 2600822924, .int .u32 528734635, .int .u32 1541459225] t frozen | o => o).modify 1 fun | .cells _ t frozen => .cells #[.int .u32 1116352408, .int .u32 1899447441, .int .u32 3049323471, .int .u32 3921009573, .int .u32 961987163, .int .u32 1508970993, .int .u32 2453635748, .int .u32 2870763221, .int .u32 3624381080, .int .u32 310598401, .int .u32 607225278, .int .u32 1426881987, .int .u32 1925078388, .int .u32 2162078206, .int .u32 2614888103, .int .u32 3248222580, .int .u32 3835390401, .int .u32 4022224774, .int .u32 264347078, .int .u32 604807628, .int .u32 770255983, .int .u32 1249150122, .int .u32 1555081692, .int .u32 1996064986, .int .u32 2554220882, .int .u32 2821834349, .int .u32 2952996808, .int .u32 3210313671, .int .u32 3336571891, .int .u32 3584528711, .int .u32 113926993, .int .u32 338241895, .int .u32 666307205, .int .u32 773529912, .int .u32 1294757372, .int .u32 1396182291, .int .u32 1695183700, .int .u32 1986661051, .int .u32 2177026350, .int .u32 2456956037, .int .u32 2730485921, .int .u32 2820302411, .int .u32 3259730800, .int .u32 3345764771, .int .u32 3516065817, .int .u32 3600352804, .int .u32 4094571909, .int .u32 275423344, .int .u32 430227734, .int .u32 506948616, .int .u32 659060556, .int .u32 883997877, .int .u32 958139571, .int .u32 1322822218, .int .u32 1537002063, .int .u32 1747873779, .int .u32 1955562222, .int .u32 2024104815, .int .u32 2227730452, .int .u32 2361852424, .int .u32 2428436474, .int .u32 2756734187, .int .u32 3204031479, .int .u32 3329325298] t frozen | o => o } : World) #[.string ByteArray.empty, .int .i64 0, .string ByteArray.empty, .int .i64 0, .int .u8 0] rfl (by kernel_rfl) (by kernel_rfl) (by kernel_rfl)
      (OpenSpec.preRow_of_cond 8 hx (by kernel_rfl) (fun k hk => by cases hk) (by kernel_rfl) (laid_met os))) ?_
  intro W base args ds gs before hval hW _ _ _ hL _ _
  exact contract H enc W base args ds gs before hval hW hL

theorem said : Rows.KeyTurnedSaid :=
  OpenClaim.holds_of_cond 7 Tryz.f7 rfl rfl rfl rfl rfl rfl rfl ⟨rfl, rfl, rfl, rfl, rfl⟩ rfl rfl rfl rfl rfl (by kernel_rfl) Tryz.func7 (by kernel_rfl)
    (of_decide_eq_true (by kernel_rfl)) (by unfold Func.isWrapper; first | (rw [if_pos (by decide +kernel)]; kernel_rfl) | (rw [if_neg (by decide +kernel)]; exact ⟨rfl, rfl⟩))
    (fun os started H enc _ F => by rw [OpenClaim.pre_eq_preRow]; exact lifted os started H enc F)

theorem plain (f : FuncId) (fn : Func) (hf : Tryz.pinned.checked.prog.funcNamed Rows.keyTurnedRow.func = some f) (hfn : Tryz.pinned.checked.prog.funcs[f]? = some fn) :
    false = Tryz.pinned.checked.prog.looks [] ∧ ∀ (j : Nat) t, fn.params[j]? = some t → Tryz.pinned.checked.prog.wantsStandIn t = false := by
  obtain rfl : f = 7 := Option.some.inj ((show Tryz.prog.funcNamed Rows.keyTurnedRow.func = some 7 by kernel_rfl).symm.trans hf) |>.symm
  obtain rfl : fn = Tryz.f7 := (Option.some.inj (Tryz.func7.symm.trans hfn)).symm
  refine ⟨by kernel_rfl, fun j t ht => ?_⟩
  rw [Tryz.params7] at ht
  have hm : t = 9 ∨ t = 3 ∨ t = 5 := by first | simpa using Array.mem_of_getElem? ht | (have h := Array.mem_of_getElem? ht; simp only [List.mem_toArray, List.mem_cons, List.not_mem_nil, or_false] at h; rcases h with rfl | rfl | rfl | rfl | rfl <;> simp)
  rcases hm with rfl | rfl | rfl
  · exact (show Tryz.prog.wantsStandIn 9 = false by kernel_rfl)
  · exact (show Tryz.prog.wantsStandIn 3 = false by kernel_rfl)
  · exact (show Tryz.prog.wantsStandIn 5 = false by kernel_rfl)

theorem card : Rows.KeyTurnedCardSaid :=
  Claim7.holds_tied_plain_at .later [] _ _ _ _ said (fun _ h => by cases h) (by kernel_rfl) (fun _ h => by cases h) keyTurned_row_tie rfl ⟨rfl, rfl⟩ (by kernel_rfl) rfl plain (by kernel_rfl)

end Go.Proofs.YtanplccigmihfaaGreatDoor.KeyTurned
namespace Go.Proofs.YtanplccigmihfaaGreatDoor
theorem keyTurned_card : Rows.KeyTurnedCardSaid := KeyTurned.card
#print axioms keyTurned_card
end Go.Proofs.YtanplccigmihfaaGreatDoor

