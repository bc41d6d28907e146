/-
  P5.3: a signature isn't right for another message, nor under another key's public, or else two unlike texts that were summed on the ways have one digest, or a chain comes round: for every two texts as seeds, every int made a height, and every two texts as messages.
  The tables of the program start as its text lays them (the card ties them).
-/
import Derived.Test.YtanplccigmihfaaGreatDoorLaid
import Derived.Test.YtanplccigmihfaaGreatDoorB12
import Derived.ProofKit
import Derived.OpenShut
import Derived.ShutString
import Derived.ChangeOld
import Derived.SevenTiedAt
import Derived.SliceStrings
namespace Go.Proofs.YtanplccigmihfaaGreatDoor.KeyOther
open Go.ChangeShapes Go.WideShapes Go.ChangeAt Go.RowKit Go.Pal
open Go.ChangeMaps (open_string shut_string)
set_option linter.unusedVariables false

theorem sig_ok (seed : ByteArray) (h leaf : Nat) (m : ByteArray) (hh : h ≤ 4) (hl : leaf < 2 ^ h) : SigOk (sigB seed h leaf m) h leaf :=
  ⟨hh, sigB_size _ _ _ _ hl, (sig_leaf _ _ _ _ (by have := pow_le16 h hh; omega)).symm, hl⟩
theorem sig_right (seed : ByteArray) (h leaf : Nat) (m : ByteArray) (hl : leaf < 2 ^ h) : sigTop m (sigB seed h leaf m) h leaf = keyB seed h := by
  rw [sigTop, sig_vals, sig_path _ _ _ _ hl, signed_top _ _ _ _ hl, keyB]
/-- A grown key stays while another one grows. -/
theorem _root_.Go.Proofs.YtanplccigmihfaaGreatDoor.KeyGrown.other {w w' : World} {a b : Nat} {seed seed2 : ByteArray} {h h2 : Nat} {u u2 : Int} (hK : KeyGrown w a seed h u) (hg : w.grownBy w' (some b)) (hne : a ≠ b) (hB : KeyFresh w b seed2 h2 u2) : KeyGrown w' a seed h u := by
  obtain ⟨g, hga, hA, hR⟩ := hK
  have hgb : g ≠ b := by
    intro e
    subst e
    unfold KeyFresh Blk at hB
    unfold Blk at hR
    rw [hR] at hB
    have h1 := Option.some.inj hB
    injection h1 with h2 h3 h4
    exact absurd h3 (by decide)
  exact ⟨g, hga, hA.grown hg (fun e => hne (Option.some.inj e)), hR.grown hg (fun e => hgb (Option.some.inj e))⟩

set_option maxHeartbeats 4000000 in
set_option maxRecDepth 100000 in
theorem walk (s o : ByteArray) (h : Int) (m n : ByteArray) (hs : s.size ≤ maxLen) (ho : o.size ≤ maxLen) (wh : (Lit.int .i64 h).wf = true) (hm : m.size ≤ maxLen) (hn : n.size ≤ maxLen) (w : World) (ht : Tabs w) :
    Calls Tryz.prog 8 #[.string s, .string o, .int .i64 h, .string m, .string n] w fun e w' => e = .returned (.bool true) ∧ Below w.heap.size w w' := by
  have HAW := Lib.hid (fun (W : World) (hb : Below w.heap.size w W) => awake5 W (ht.below hb))
  have HT := Lib.hid ht
  have hnot : ∀ (x : Bool) (w : World), (Op.unary .not (.bool x)).run Tryz.prog w = .ok (.bool (!x)) w := fun _ _ => rfl
  clear ht wh hs hm ho hn
  by_cases h0 : 300 < s.size ∨ (¬ 300 < s.size ∧ 300 < o.size) ∨ (¬ 300 < s.size ∧ ¬ 300 < o.size ∧ 300 < m.size) ∨ (¬ 300 < s.size ∧ ¬ 300 < o.size ∧ ¬ 300 < m.size ∧ 300 < n.size)
  · rcases h0 with h1 | ⟨h1, h2⟩ | ⟨h1, h2, h3⟩ | ⟨h1, h2, h3, h4⟩
    all_goals
      go_enter Tryz.func8, Tryz.ntmps8
      go_wp2_with (first | (go_at_call 10; refine (long5 _ _).mono ?_; rintro e w1 ⟨rfl, rfl⟩) | (go_at_call 11; refine (HAW.out _ (Below.refl _ _)).mono ?_; rintro e w1 ⟨rfl, b1⟩))
      go_ret
      exact ⟨rfl, b1⟩
  have h1 : ¬ 300 < s.size := by omega
  have h2 : ¬ 300 < o.size := by omega
  have h3 : ¬ 300 < m.size := by omega
  have h4 : ¬ 300 < n.size := by omega
  clear h0
  have hH := smallN_le h
  have HSM := Lib.hid (fun W => small5 h W)
  generalize smallN h = H at *
  have hpos := Nat.two_pow_pos H
  have hna := fun W => new_yes W s H 0 (by omega) (by omega) (by omega)
  have hnb := fun W => new_yes W o H 0 (by omega) (by omega) (by omega)
  rw [show ((0 : Nat) : Int) = 0 from rfl] at hna hnb
  have HNA := Lib.hid hna
  have HNB := Lib.hid hnb
  have HSG := Lib.hid (fun W b hT (hK : KeyFresh W b s H 0) => sign_any W b s H 0 m (by omega) hpos (by omega) (by omega) hT (.inl hK))
  have HPG := Lib.hid (fun W b (hK : KeyGrown W b s H ((0 + 1 : Nat) : Int)) => public_grown W b s H _ hK)
  have HPB := Lib.hid (fun W b hT (hK : KeyAt W b o H 0) => public_at W b o H 0 (by omega) (by omega) hT hK)
  have HPG2 := Lib.hid (fun W b (hK : KeyGrown W b o H 0) => public_grown W b o H _ hK)
  have hok := sig_ok s H 0 m (by omega) hpos
  have hrt := sig_right s H 0 m hpos
  generalize hS : sigB s H 0 m = S at *
  have hzS : S.size = 2 + 32 * (67 + H) := hok.hz
  have hvm := fun W hT => verify_yes W (keyB s H) m S H 0 hok (by omega) hT
  rw [hrt, (beqT _ _).2 rfl] at hvm
  have hvn := fun (e : ((keyB s H).toList == (keyB o H).toList) = false) W hT => (show Calls Tryz.prog 23 #[.string (keyB o H), .string m, .string S] W fun e w' => e = .returned (.bool false) ∧ Below W.heap.size W w' by
    have hv := verify_yes W (keyB o H) m S H 0 hok (by omega) hT
    rw [hrt, e] at hv
    exact hv)
  have hvo := fun W hT => verify_yes W (keyB s H) n S H 0 hok (by omega) hT
  have hr1 := fun W => refverify_yes W (keyB s H) m S H 0 hok (by omega)
  have hr2 := fun W => refverify_yes W (keyB s H) n S H 0 hok (by omega)
  have l1 := roadV_length m (cutL S 2 67) 0 (cutL S 2146 H) (by rw [cutL_length]; omega)
  have l2 := roadV_length n (cutL S 2 67) 0 (cutL S 2146 H) (by rw [cutL_length]; omega)
  have v32 := cutL_32 S 2 67 (by omega)
  have p32 := cutL_32 S 2146 H (by omega)
  have r1 := roadV_le m (cutL S 2 67) 0 (cutL S 2146 H) (by omega) (cutL_length _ _ _) v32 p32
  have r2 := roadV_le n (cutL S 2 67) 0 (cutL S 2146 H) (by omega) (cutL_length _ _ _) v32 p32
  have hxc : n ≠ m → sigTop n S H 0 = keyB s H → _ := fun hne he => other_round m n (cutL S 2 67) (cutL S 2146 H) 0 H (cutL_length _ _ _) (cutL_length _ _ _) v32.small p32.small (by omega) (by omega) (fun e => hne e.symm) (show sigTop m S H 0 = sigTop n S H 0 from hrt.trans he.symm)
  have HXC := Lib.hid (fun hne he => (hxc hne he).imp (clash_ex _ _) id)
  have hexc := fun W g c (hr : StrRow W (some ⟨g, 0, none⟩) (roadV m (cutL S 2 67) 0 (cutL S 2146 H) ++ roadV n (cutL S 2 67) 0 (cutL S 2146 H))) hx => excused_true W g c _ S H 0 hok (by rw [List.length_append]; omega) hr (getD_all _ _ (fun p hp => by
    rcases List.mem_append.1 hp with h | h
    · exact r1 p h
    · exact r2 p h)) hx
  rw [List.length_append] at hexc
  rw [hrt, (beqT _ _).2 rfl] at hr1
  generalize roadV m (cutL S 2 67) 0 (cutL S 2146 H) = R1 at *
  generalize roadV n (cutL S 2 67) 0 (cutL S 2146 H) = R2 at *
  have HBO := Lib.hid (fun W g1 c1 g2 c2 q1 q2 => both_any W g1 0 c1 g2 0 c2 R1 R2 l1.2 l2.2 l1.1 l2.1 q1 q2)
  generalize sigTop n S H 0 = TOP at *
  generalize keyB s H = KA at *
  generalize keyB o H = KB at *
  have HEC := Lib.hid hexc
  have HR1 := Lib.hid hr1
  have HR2 := Lib.hid hr2
  have HVM := Lib.hid hvm
  have HVN := Lib.hid hvn
  have HVO := Lib.hid hvo
  clear hexc hr1 hr2 hvm hvn hvo hxc r1 r2 l1 l2 v32 p32 hok hrt hzS hS hna hnb
  go_enter Tryz.func8, Tryz.ntmps8
  go_wp2_with (first | (go_at_call 10; refine (long5 _ _).mono ?_; rintro e w1 ⟨rfl, rfl⟩) | (go_at_call 11; refine (HAW.out _ (Below.refl _ _)).mono ?_; rintro e w1 ⟨rfl, b1⟩) | (go_at_call 17; refine (HSM.out _).mono ?_; rintro e w2 ⟨rfl, rfl⟩))
  refine (HNA.out _).mono ?_
  rintro e w2 ⟨⟨a, rfl, ka, ha⟩, b2⟩
  have ha0 := Nat.le_trans b1.size ha
  have B2 := Lib.hid (b1.trans (b2.mono b1.size))
  have hal := Blk.lt ka
  have KA2 := Lib.hid ka
  clear b1 b2 ka ha HNA HAW
  go_wp2_with (go_at_call 17; refine (HSM.out _).mono ?_; rintro e w3 ⟨rfl, rfl⟩)
  refine (HNB.out _).mono ?_
  rintro e w3 ⟨⟨b, rfl, kb, hb⟩, b3⟩
  have hb0 := Nat.le_trans B2.out.size hb
  have hne : a ≠ b := by omega
  have B3 := Lib.hid (B2.out.trans (b3.mono B2.out.size))
  have ka3 := Blk.below KA2.out b3 hal
  have HS3 := Lib.hid (HSG.out w3 a (TabsK.of HT.out B3.out ha0) ka3)
  have KB3 := Lib.hid kb
  have HB0 := Lib.hid hb0
  have HA0 := Lib.hid ha0
  have HNE := Lib.hid hne
  clear b3 kb hb hb0 ha0 hne hal ka3 KA2 HNB HSM HSG
  go_wp2_with fail
  refine HS3.out.mono ?_
  rintro e w4 ⟨rfl, k4, g4⟩
  have B4 := Lib.hid (B3.out.grown g4 B3.out.size (fun k hk => by cases hk; exact HA0.out))
  have K4 := Lib.hid k4
  have F4 := Lib.hid (Blk.grown KB3.out g4 (fun e => HNE.out (Option.some.inj e).symm))
  clear k4 g4 HS3 KB3
  go_wp2_with fail
  refine (HPG.out w4 a K4.out).mono ?_
  rintro e w5 ⟨rfl, b5⟩
  have B5 := Lib.hid (B4.out.trans (b5.mono B4.out.size))
  have K5 := Lib.hid (K4.out.below b5)
  have F5 := Lib.hid (F4.out.below b5 F4.out.lt)
  clear b5 K4 F4
  go_wp2_with fail
  refine (HR1.out w5).mono ?_
  rintro e w6 ⟨⟨g1, n1, c1, rfl, rfl, q1⟩, b6⟩
  have B6 := Lib.hid (B5.out.trans (b6.mono B5.out.size))
  have K6 := Lib.hid (K5.out.below b6)
  have F6 := Lib.hid (F5.out.below b6 F5.out.lt)
  have Q6 := Lib.hid q1
  clear b6 K5 F5 q1 HR1
  by_cases hnm : n = m
  · subst hnm
    obtain ⟨wx, hwx⟩ : ∃ wx, wx = w6 := ⟨_, rfl⟩
    rw [← hwx] at B6 K6 F6 ⊢
    have BX := B6
    have KX := K6
    have FX := F6
    clear hwx HXC HVO HR2 HBO HEC
    -- the other key's public; then the key's own
    go_wp2_with fail
    refine (HPG.out wx a KX.out).mono ?_
    rintro e w20 ⟨rfl, b20⟩
    have B20 := Lib.hid (BX.out.trans (b20.mono BX.out.size))
    have K20 := Lib.hid (KX.out.below b20)
    have F20 := FX.out.below b20 FX.out.lt
    have HPB20 := Lib.hid (HPB.out w20 b (TabsK.of HT.out B20.out HB0.out) (.inl F20))
    have F20H := Lib.hid F20
    clear b20 F20
    go_wp2_with fail
    refine HPB20.out.mono ?_
    rintro e w21 ⟨rfl, kb21, g21⟩
    have B21 := Lib.hid (B20.out.grown g21 B20.out.size (fun k hk => by cases hk; exact HB0.out))
    have K21 := Lib.hid (K20.out.other g21 HNE.out F20H.out)
    have KB21 := Lib.hid kb21
    clear kb21 g21 HPB20
    by_cases hAB : KA = KB
    · subst hAB
      go_wp2_with fail
      refine (HPG.out w21 a K21.out).mono ?_
      rintro e w22 ⟨rfl, b22⟩
      have B22 := Lib.hid (B21.out.trans (b22.mono B21.out.size))
      have HV22 := Lib.hid (HVM.out w22 (HT.out.below B22.out))
      clear b22
      go_wp2_with fail
      refine HV22.out.mono ?_
      rintro e w23 ⟨rfl, b23⟩
      have B23 := Lib.hid (B22.out.trans (b23.mono B22.out.size))
      clear b23
      go_wp2
      go_ret
      exact ⟨rfl, B23.out⟩
    · have hABF := beqF hAB
      have HVN2 := Lib.hid (HVN.out hABF)
      clear hAB
      go_wp2_with fail
      refine (HPG2.out w21 b KB21.out).mono ?_
      rintro e w22 ⟨rfl, b22⟩
      have B22 := Lib.hid (B21.out.trans (b22.mono B21.out.size))
      have K22 := Lib.hid (K21.out.below b22)
      have HV22 := Lib.hid (HVN2.out w22 (HT.out.below B22.out))
      clear b22
      go_wp2_with fail
      refine HV22.out.mono ?_
      rintro e w23 ⟨rfl, b23⟩
      have B23 := Lib.hid (B22.out.trans (b23.mono B22.out.size))
      have K23 := Lib.hid (K22.out.below b23)
      clear b23 HV22
      go_wp2_with fail
      refine (HPG.out w23 a K23.out).mono ?_
      rintro e w24 ⟨rfl, b24⟩
      have B24 := Lib.hid (B23.out.trans (b24.mono B23.out.size))
      have HV24 := Lib.hid (HVM.out w24 (HT.out.below B24.out))
      clear b24
      go_wp2_with fail
      refine HV24.out.mono ?_
      rintro e w25 ⟨rfl, b25⟩
      have B25 := Lib.hid (B24.out.trans (b25.mono B24.out.size))
      clear b25
      go_wp2
      go_ret
      exact ⟨rfl, B25.out⟩
  have hnmF := beqF hnm
  go_wp2_with fail
  refine (HPG.out w6 a K6.out).mono ?_
  rintro e w7 ⟨rfl, b7⟩
  have B7 := Lib.hid (B6.out.trans (b7.mono B6.out.size))
  have K7 := Lib.hid (K6.out.below b7)
  have F7 := Lib.hid (F6.out.below b7 F6.out.lt)
  have Q7 := Lib.hid (Q6.out.below b7)
  have HV7 := Lib.hid (HVO.out w7 (HT.out.below B7.out))
  clear b7 K6 F6 Q6 HVO
  by_cases hX : TOP = KA
  · have HX := Lib.hid (HXC.out hnm hX)
    subst hX
    rw [(beqT _ _).2 rfl] at HV7 HR2
    clear HXC hnm
    go_wp2_with fail
    refine HV7.out.mono ?_
    rintro e w8 ⟨rfl, b8⟩
    have B8 := Lib.hid (B7.out.trans (b8.mono B7.out.size))
    have K8 := Lib.hid (K7.out.below b8)
    have Q8 := Lib.hid (Q7.out.below b8)
    clear b8 HV7 K7 Q7
    go_wp2_with fail
    refine (HPG.out w8 a K8.out).mono ?_
    rintro e w9 ⟨rfl, b9⟩
    have B9 := Lib.hid (B8.out.trans (b9.mono B8.out.size))
    have Q9 := Lib.hid (Q8.out.below b9)
    clear b9 K8 Q8
    go_wp2_with fail
    refine (HR2.out w9).mono ?_
    rintro e w10 ⟨⟨g2, n2, c2, rfl, rfl, q2⟩, b10⟩
    have B10 := Lib.hid (B9.out.trans (b10.mono B9.out.size))
    have HBO2 := Lib.hid (HBO.out w10 g1 c1 g2 c2 (Q9.out.below b10) q2)
    clear b10 q2 HR2 Q9
    go_wp2_with fail
    refine HBO2.out.mono ?_
    rintro e w11 ⟨⟨g3, c3, rfl, q3⟩, b11⟩
    have B11 := Lib.hid (B10.out.trans (b11.mono B10.out.size))
    have HEC2 := Lib.hid (HEC.out w11 g3 c3 q3 (by have hx := HX.out; rw [List.length_append] at hx; exact hx))
    clear b11 q3 HBO2
    go_wp2_with fail
    refine HEC2.out.mono ?_
    rintro e w12 ⟨rfl, b12⟩
    have B12 := Lib.hid (B11.out.trans (b12.mono B11.out.size))
    clear b12
    go_wp2
    go_ret
    exact ⟨rfl, B12.out⟩
  · have hXF := beqF hX
    rw [hXF] at HV7
    clear HXC hnm hX HR2 HBO HEC Q7
    go_wp2_with fail
    refine HV7.out.mono ?_
    rintro e wx ⟨rfl, b8⟩
    have BX := Lib.hid (B7.out.trans (b8.mono B7.out.size))
    have KX := Lib.hid (K7.out.below b8)
    have FX := Lib.hid (F7.out.below b8 F7.out.lt)
    clear b8 HV7 K7 F7
    -- the other key's public; then the key's own
    go_wp2_with fail
    refine (HPG.out wx a KX.out).mono ?_
    rintro e w20 ⟨rfl, b20⟩
    have B20 := Lib.hid (BX.out.trans (b20.mono BX.out.size))
    have K20 := Lib.hid (KX.out.below b20)
    have F20 := FX.out.below b20 FX.out.lt
    have HPB20 := Lib.hid (HPB.out w20 b (TabsK.of HT.out B20.out HB0.out) (.inl F20))
    have F20H := Lib.hid F20
    clear b20 F20
    go_wp2_with fail
    refine HPB20.out.mono ?_
    rintro e w21 ⟨rfl, kb21, g21⟩
    have B21 := Lib.hid (B20.out.grown g21 B20.out.size (fun k hk => by cases hk; exact HB0.out))
    have K21 := Lib.hid (K20.out.other g21 HNE.out F20H.out)
    have KB21 := Lib.hid kb21
    clear kb21 g21 HPB20
    by_cases hAB : KA = KB
    · subst hAB
      go_wp2_with fail
      refine (HPG.out w21 a K21.out).mono ?_
      rintro e w22 ⟨rfl, b22⟩
      have B22 := Lib.hid (B21.out.trans (b22.mono B21.out.size))
      have HV22 := Lib.hid (HVM.out w22 (HT.out.below B22.out))
      clear b22
      go_wp2_with fail
      refine HV22.out.mono ?_
      rintro e w23 ⟨rfl, b23⟩
      have B23 := Lib.hid (B22.out.trans (b23.mono B22.out.size))
      clear b23
      go_wp2
      go_ret
      exact ⟨rfl, B23.out⟩
    · have hABF := beqF hAB
      have HVN2 := Lib.hid (HVN.out hABF)
      clear hAB
      go_wp2_with fail
      refine (HPG2.out w21 b KB21.out).mono ?_
      rintro e w22 ⟨rfl, b22⟩
      have B22 := Lib.hid (B21.out.trans (b22.mono B21.out.size))
      have K22 := Lib.hid (K21.out.below b22)
      have HV22 := Lib.hid (HVN2.out w22 (HT.out.below B22.out))
      clear b22
      go_wp2_with fail
      refine HV22.out.mono ?_
      rintro e w23 ⟨rfl, b23⟩
      have B23 := Lib.hid (B22.out.trans (b23.mono B22.out.size))
      have K23 := Lib.hid (K22.out.below b23)
      clear b23 HV22
      go_wp2_with fail
      refine (HPG.out w23 a K23.out).mono ?_
      rintro e w24 ⟨rfl, b24⟩
      have B24 := Lib.hid (B23.out.trans (b24.mono B23.out.size))
      have HV24 := Lib.hid (HVM.out w24 (HT.out.below B24.out))
      clear b24
      go_wp2_with fail
      refine HV24.out.mono ?_
      rintro e w25 ⟨rfl, b25⟩
      have B25 := Lib.hid (B24.out.trans (b25.mono B24.out.size))
      clear b25
      go_wp2
      go_ret
      exact ⟨rfl, B25.out⟩

theorem own : ownKnob Tryz.prog.godebug = none := by kernel_rfl
theorem laidOut : laidOutB Tryz.prog = true := by kernel_rfl

set_option maxRecDepth 100000 in
theorem contract (H : Type) (enc : TypeId × Value → H) (W : World) (base : Nat) (args : Array Value) (ds gs : List (DataW H)) (before : List MemPlace)
    (hval : ∀ (j : Nat) t v, Tryz.f8.params[j]? = some t → args[j]? = some v → Value.okWide Tryz.prog W .any base t v)
    (hW : DataW.Whole enc Tryz.prog Tryz.f8.params.toList Rows.keyOtherSpec.vars false W args.toList ds gs before) (hL : laidMetH Tryz.prog Rows.keyOtherRow.laid W) :
    Calls Tryz.prog 8 args W fun e W' => ∃ v, e = .returned v ∧ Rows.keyOtherSpec.post enc Tryz.prog Tryz.f8 false true false false W args v W' := by
  have hW' := hW
  obtain ⟨p, q, hA0, hV, rfl, hfz, hnd⟩ := hW
  have hA : DataW.TrodAll enc Tryz.prog W 0 (fun _ => true) true Tryz.f8.params.toList args.toList ds p := hA0
  rw [Tryz.params8] at hA hval
  obtain ⟨v0, vs0, d0, ds0, p0, q0, hargs, rfl, rfl, h0, r0⟩ := trodAll_cons hA
  obtain ⟨v1, vs1, d1, ds1, p1, q1, rfl, rfl, rfl, h1, r1⟩ := trodAll_cons r0
  obtain ⟨v2, vs2, d2, ds2, p2, q2, rfl, rfl, rfl, h2, r2⟩ := trodAll_cons r1
  obtain ⟨v3, vs3, d3, ds3, p3, q3, rfl, rfl, rfl, h3, r3⟩ := trodAll_cons r2
  obtain ⟨v4, vs4, d4, ds4, p4, q4, rfl, rfl, rfl, h4, r4⟩ := trodAll_cons r3
  obtain ⟨rfl, rfl, rfl⟩ := trodAll_nil r4
  obtain rfl : args = #[v0, v1, v2, v3, v4] := by cases args; simp_all
  obtain ⟨rfl, rfl⟩ := trodVars_none hV
  obtain ⟨a0, rfl, rfl, rfl, w0⟩ := open_string Tryz.underlying9 (hval 0 9 v0 rfl rfl) h0
  obtain ⟨a1, rfl, rfl, rfl, w1⟩ := open_string Tryz.underlying9 (hval 1 9 v1 rfl rfl) h1
  obtain ⟨a2, rfl, rfl, rfl, w2⟩ := open_int Tryz.underlying3 (hval 2 3 v2 rfl rfl) h2
  obtain ⟨a3, rfl, rfl, rfl, w3⟩ := open_string Tryz.underlying9 (hval 3 9 v3 rfl rfl) h3
  obtain ⟨a4, rfl, rfl, rfl, w4⟩ := open_string Tryz.underlying9 (hval 4 9 v4 rfl rfl) h4
  clear hA0
  refine (walk a0 a1 a2 a3 a4 w0 w1 w2 w3 w4 W (tabs_of_laid hL)).mono fun e W' ⟨he, bel⟩ => ?_
  subst he
  exact ⟨_, rfl, _, _, _, [], [], [], hW', trodAll_mk1 (shut_bool Tryz.underlying4 _), (trodAll_cons_mk (shut_string Tryz.underlying9 w0) (trodAll_cons_mk (shut_string Tryz.underlying9 w1) (trodAll_cons_mk (shut_int Tryz.underlying3 w2) (trodAll_cons_mk (shut_string Tryz.underlying9 w3) (trodAll_cons_mk (shut_string Tryz.underlying9 w4) trodAll_mk0))))), rfl, bel.frame _, fun h => by cases h⟩

theorem laid_met (os : Os) : laidMet Tryz.prog Rows.keyOtherRow.laid (({ World.holding Tryz.prog os ⟨#[], #[], []⟩ with heap := ((World.holding Tryz.prog os ⟨#[], #[], []⟩).heap.modify 0 fun | .cells _ t frozen => .cells #[.int .u32 1779033703, .int .u32 3144134277, .int .u32 1013904242, .int .u32 2773480762, .int .u32 1359893119, .int .u32 2600822924, .int .u32 528734635, .int .u32 1541459225] t frozen | o => o).modify 1 fun | .cells _ t frozen => .cells #[.int .u32 1116352408, .int .u32 1899447441, .int .u32 3049323471, .int .u32 3921009573, .int .u32 961987163, .int .u32 1508970993, .int .u32 2453635748, .int .u32 2870763221, .int .u32 3624381080, .int .u32 310598401, .int .u32 607225278, .int .u32 1426881987, .int .u32 1925078388, .int .u32 2162078206, .int .u32 2614888103, .int .u32 3248222580, .int .u32 3835390401, .int .u32 4022224774, .int .u32 264347078, .int .u32 604807628, .int .u32 770255983, .int .u32 1249150122, .int .u32 1555081692, .int .u32 1996064986, .int .u32 2554220882, .int .u32 2821834349, .int .u32 2952996808, .int .u32 3210313671, .int .u32 3336571891, .int .u32 3584528711, .int .u32 113926993, .int .u32 338241895, .int .u32 666307205, .int .u32 773529912, .int .u32 1294757372, .int .u32 1396182291, .int .u32 1695183700, .int .u32 1986661051, .int .u32 2177026350, .int .u32 2456956037, .int .u32 2730485921, .int .u32 2820302411, .int .u32 3259730800, .int .u32 3345764771, .int .u32 3516065817, .int .u32 3600352804, .int .u32 4094571909, .int .u32 275423344, .int .u32 430227734, .int .u32 506948616, .int .u32 659060556, .int .u32 883997877, .int .u32 958139571, .int .u32 1322822218, .int .u32 1537002063, .int .u32 1747873779, .int .u32 1955562222, .int .u32 2024104815, .int .u32 2227730452, .int .u32 2361852424, .int .u32 2428436474, .int .u32 2756734187, .int .u32 3204031479, .int .u32 3329325298] t frozen | o => o } : World).forCall (fun _ _ => 0) ⟨#[], #[.string ByteArray.empty, .string ByteArray.empty, .int .i64 0, .string ByteArray.empty, .string ByteArray.empty], []⟩).memory :=
  laidMet_of_run' 8 (by kernel_rfl) (by kernel_rfl)
theorem reads (os : Os) {H : Type} (enc : TypeId × Value → H) : ∃ places, DataW.whole enc Tryz.prog (({ World.holding Tryz.prog os ⟨#[], #[], []⟩ with heap := ((World.holding Tryz.prog os ⟨#[], #[], []⟩).heap.modify 0 fun | .cells _ t frozen => .cells #[.int .u32 1779033703, .int .u32 3144134277, .int .u32 1013904242, .int .u32 2773480762, .int .u32 1359893119, .int .u32 2600822924, .int .u32 528734635, .int .u32 1541459225] t frozen | o => o).modify 1 fun | .cells _ t frozen => .cells #[.int .u32 1116352408, .int .u32 1899447441, .int .u32 3049323471, .int .u32 3921009573, .int .u32 961987163, .int .u32 1508970993, .int .u32 2453635748, .int .u32 2870763221, .int .u32 3624381080, .int .u32 310598401, .int .u32 607225278, .int .u32 1426881987, .int .u32 1925078388, .int .u32 2162078206, .int .u32 2614888103, .int .u32 3248222580, .int .u32 3835390401, .int .u32 4022224774, .int .u32 264347078, .int .u32 604807628, .int .u32 770255983, .int .u32 1249150122, .int .u32 1555081692, .int .u32 1996064986, .int .u32 2554220882, .int .u32 2821834349, .int .u32 2952996808, .int .u32 3210313671, .int .u32 3336571891, .int .u32 3584528711, .int .u32 113926993, .int .u32 338241895, .int .u32 666307205, .int .u32 773529912, .int .u32 1294757372, .int .u32 1396182291, .int .u32 1695183700, .int .u32 1986661051, .int .u32 2177026350, .int .u32 2456956037, .int .u32 2730485921, .int .u32 2820302411, .int .u32 3259730800, .int .u32 3345764771, .int .u32 3516065817, .int .u32 3600352804, .int .u32 4094571909, .int .u32 275423344, .int .u32 430227734, .int .u32 506948616, .int .u32 659060556, .int .u32 883997877, .int .u32 958139571, .int .u32 1322822218, .int .u32 1537002063, .int .u32 1747873779, .int .u32 1955562222, .int .u32 2024104815, .int .u32 2227730452, .int .u32 2361852424, .int .u32 2428436474, .int .u32 2756734187, .int .u32 3204031479, .int .u32 3329325298] t frozen | o => o } : World).forCall (fun _ _ => 0) ⟨#[], #[.string ByteArray.empty, .string ByteArray.empty, .int .i64 0, .string ByteArray.empty, .string ByteArray.empty], []⟩).memory Tryz.f8.params.toList Rows.keyOtherSpec.vars false (#[.string ByteArray.empty, .string ByteArray.empty, .int .i64 0, .string ByteArray.empty, .string ByteArray.empty] : Array Value).toList 8 = some ([.lit (.string []), .lit (.string []), .lit (.int .i64 0), .lit (.string []), .lit (.string [])], [], places) :=
  ⟨[], by kernel_rfl⟩

set_option maxRecDepth 100000 in
theorem lifted (os : Os) (started : os.Started) (H : Type) (enc : TypeId × Value → H) (F : Stop.Interp) :
    ReturnsInHanded {} Tryz.checked os 8 .any ((OpenSpec.ofChange Rows.keyOtherSpec).preRow enc Tryz.prog Tryz.f8 Rows.keyOtherRow.domain false Rows.keyOtherRow.laid) (((OpenSpec.ofChange Rows.keyOtherSpec).at F).post enc Tryz.prog Tryz.f8 false true false false) := by
  obtain ⟨places, hx⟩ := reads os enc
  refine returnsInHanded_of_row (C := Tryz.checked) (s := OpenSpec.ofChange Rows.keyOtherSpec) own started (by kernel_rfl) Tryz.func8
    (witness_row_at (enc := enc) (C := Tryz.checked) false ({ World.holding Tryz.prog os ⟨#[], #[], []⟩ with heap := ((World.holding Tryz.prog os ⟨#[], #[], []⟩).heap.modify 0 fun | .cells _ t frozen => .cells #[.int .u32 1779033703, .int .u32 3144134277, .int .u32 1013904242, .int .u32 2773480762, .int .u32 1359893119, .int .u32 2600822924, .int .u32 528734635, .int .u32 1541459225] t frozen | o => o).modify 1 fun | .cells _ t frozen => .cells #[.int .u32 1116352408, .int .u32 1899447441, .int .u32 3049323471, .int .u32 3921009573, .int .u32 961987163, .int .u32 1508970993, .int .u32 2453635748, .int .u32 2870763221, .int .u32 3624381080, .int .u32 310598401, .int .u32 607225278, .int .u32 1426881987, .int .u32 1925078388, .int .u32 2162078206, .int .u32 2614888103, .int .u32 3248222580, .int .u32 3835390401, .int .u32 4022224774, .int .u32 264347078, .int .u32 604807628, .int .u32 770255983, .int .u32 1249150122, .int .u32 1555081692, .int .u32 1996064986, .int .u32 2554220882, .int .u32 2821834349, .int .u32 2952996808, .int .u32 3210313671, .int .u32 3336571891, .int .u32 3584528711, .int .u32 113926993, .int .u32 338241895, .int .u32 666307205, .int .u32 773529912, .int .u32 1294757372, .int .u32 1396182291, .int .u32 1695183700, .int .u32 1986661051, .int .u32 2177026350, .int .u32 2456956037, .int .u32 2730485921, .int .u32 2820302411, .int .u32 3259730800, .int .u32 3345764771, .int .u32 3516065817, .int .u32 3600352804, .int .u32 4094571909, .int .u32 275423344, .int .u32 430227734, .int .u32 506948616, .int .u32 659060556, .int .u32 883997877, .int .u32 958139571, .int .u32 1322822218, .int .u32 1537002063, .int .u32 1747873779, .int .u32 1955562222, .int .u32 2024104815, .int .u32 2227730452, .int .u32 2361852424, .int .u32 2428436474, .int .u32 2756734187, .int .u32 3204031479, .int .u32 3329325298] t frozen | o => o } : World) #[.string ByteArray.empty, .string ByteArray.empty, .int .i64 0, .string ByteArray.empty, .string ByteArray.empty] rfl (by kernel_rfl) (by kernel_rfl) (by kernel_rfl)
      (OpenSpec.preRow_of_cond 8 hx (by kernel_rfl) (fun k hk => by cases hk) (by kernel_rfl) (laid_met os))) ?_
  intro W base args ds gs before hval hW _ _ _ hL _ _
  exact contract H enc W base args ds gs before hval hW hL

theorem said : Rows.KeyOtherSaid :=
  OpenClaim.holds_of_cond 8 Tryz.f8 rfl rfl rfl rfl rfl rfl rfl ⟨rfl, rfl, rfl, rfl, rfl⟩ rfl rfl rfl rfl rfl (by kernel_rfl) Tryz.func8 (by kernel_rfl)
    (of_decide_eq_true (by kernel_rfl)) (by unfold Func.isWrapper; first | (rw [if_pos (by decide +kernel)]; kernel_rfl) | (rw [if_neg (by decide +kernel)]; exact ⟨rfl, rfl⟩))
    (fun os started H enc _ F => by rw [OpenClaim.pre_eq_preRow]; exact lifted os started H enc F)

theorem plain (f : FuncId) (fn : Func) (hf : Tryz.pinned.checked.prog.funcNamed Rows.keyOtherRow.func = some f) (hfn : Tryz.pinned.checked.prog.funcs[f]? = some fn) :
    false = Tryz.pinned.checked.prog.looks [] ∧ ∀ (j : Nat) t, fn.params[j]? = some t → Tryz.pinned.checked.prog.wantsStandIn t = false := by
  obtain rfl : f = 8 := Option.some.inj ((show Tryz.prog.funcNamed Rows.keyOtherRow.func = some 8 by kernel_rfl).symm.trans hf) |>.symm
  obtain rfl : fn = Tryz.f8 := (Option.some.inj (Tryz.func8.symm.trans hfn)).symm
  refine ⟨by kernel_rfl, fun j t ht => ?_⟩
  rw [Tryz.params8] at ht
  have hm : t = 9 ∨ t = 3 := by first | simpa using Array.mem_of_getElem? ht | (have h := Array.mem_of_getElem? ht; simp only [List.mem_toArray, List.mem_cons, List.not_mem_nil, or_false] at h; rcases h with rfl | rfl | rfl | rfl | rfl <;> simp)
  rcases hm with rfl | rfl
  · exact (show Tryz.prog.wantsStandIn 9 = false by kernel_rfl)
  · exact (show Tryz.prog.wantsStandIn 3 = false by kernel_rfl)

theorem card : Rows.KeyOtherCardSaid :=
  Claim7.holds_tied_plain_at .later [] _ _ _ _ said (fun _ h => by cases h) (by kernel_rfl) (fun _ h => by cases h) keyOther_row_tie rfl ⟨rfl, rfl⟩ (by kernel_rfl) rfl plain (by kernel_rfl)

end Go.Proofs.YtanplccigmihfaaGreatDoor.KeyOther
namespace Go.Proofs.YtanplccigmihfaaGreatDoor
theorem keyOther_card : Rows.KeyOtherCardSaid := KeyOther.card
#print axioms keyOther_card
end Go.Proofs.YtanplccigmihfaaGreatDoor

