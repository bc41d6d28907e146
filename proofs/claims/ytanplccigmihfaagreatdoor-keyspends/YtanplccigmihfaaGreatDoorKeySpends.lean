/-
  P5.3: a key signs as often as it has leaves left, each time by another one, and each signature is right for its message; then it is spent, and stays so: for every text as a seed, every two ints made a height and a count of used leaves, and every list of messages.
  The tables of the program start as its text lays them (the card ties them).
-/
import Derived.Test.YtanplccigmihfaaGreatDoorLaid
import Derived.Test.YtanplccigmihfaaGreatDoorB8
import Derived.ProofKit
import Derived.OpenShut
import Derived.ShutString
import Derived.ChangeOld
import Derived.SevenTiedAt
import Derived.SliceStrings
namespace Go.Proofs.YtanplccigmihfaaGreatDoor.KeySpends
open Go.ChangeShapes Go.WideShapes Go.ChangeAt Go.RowKit Go.Pal
open Go.ChangeMaps (open_string shut_string)
set_option linter.unusedVariables false

theorem sig_ok (seed : ByteArray) (h leaf : Nat) (m : ByteArray) (hh : h ≤ 4) (hl : leaf < 2 ^ h) : SigOk (sigB seed h leaf m) h leaf :=
  ⟨hh, sigB_size _ _ _ _ hl, (sig_leaf _ _ _ _ (by have := pow_le16 h hh; omega)).symm, hl⟩
/-- What is signed is right. -/
theorem sig_right (seed : ByteArray) (h leaf : Nat) (m : ByteArray) (hl : leaf < 2 ^ h) : sigTop m (sigB seed h leaf m) h leaf = keyB seed h := by
  rw [sigTop, sig_vals, sig_path _ _ _ _ hl, signed_top _ _ _ _ hl, keyB]

/-- What is left of a count behind a division by one more than there are leaves. -/
def usedN (u : Int) (h : Nat) : Nat := ((u % 18446744073709551616) % ((2 ^ h + 1 : Nat) : Int)).toNat
theorem usedN_le (u : Int) (h : Nat) : usedN u h ≤ 2 ^ h := by
  unfold usedN
  generalize 2 ^ h = n
  have := Int.emod_lt_of_pos (u % 18446744073709551616) (show (0 : Int) < ((n + 1 : Nat) : Int) by omega)
  omega

set_option maxHeartbeats 4000000 in
set_option maxRecDepth 100000 in
theorem walk (s : ByteArray) (h u : Int) (x : Option Addr) (cap : Nat) (ms : List ByteArray) (w : World) (hs : s.size ≤ maxLen) (wh : (Lit.int .i64 h).wf = true) (wu : (Lit.int .i64 u).wf = true) (hr : StrRow w x ms) (hms : ms.length ≤ maxLen ∧ ∀ s ∈ ms, s.size ≤ maxLen) (ht : Tabs w) :
    Calls Tryz.prog 6 #[.string s, .int .i64 h, .int .i64 u, .slice x ms.length cap] w fun e w' => e = .returned (.bool true) ∧ Below w.heap.size w w' := by
  have HAW := Lib.hid (fun (W : World) (hb : Below w.heap.size w W) => awake5 W (ht.below hb))
  have HT := Lib.hid ht
  have HMR := Lib.hid hr
  have hnot : ∀ (x : Bool) (w : World), (Op.unary .not (.bool x)).run Tryz.prog w = .ok (.bool (!x)) w := fun _ _ => rfl
  have hml := hms.1
  unfold maxLen at hml
  clear ht wh wu hs hr hms
  by_cases h1 : 300 < s.size
  · go_enter Tryz.func6, Tryz.ntmps6
    go_wp2_with (first | (go_at_call 10; refine (long5 _ _).mono ?_; rintro e w1 ⟨rfl, rfl⟩) | (go_at_call 11; refine (HAW.out _ (Below.refl _ _)).mono ?_; rintro e w1 ⟨rfl, b1⟩))
    go_ret
    exact ⟨rfl, b1⟩
  by_cases h2 : 8 < ms.length
  · go_enter Tryz.func6, Tryz.ntmps6
    go_wp2_with (first | (go_at_call 10; refine (long5 _ _).mono ?_; rintro e w1 ⟨rfl, rfl⟩) | (go_at_call 11; refine (HAW.out _ (Below.refl _ _)).mono ?_; rintro e w1 ⟨rfl, b1⟩))
    go_ret
    exact ⟨rfl, b1⟩
  have hH := smallN_le h
  have HSM := Lib.hid (fun W => small5 h W)
  generalize smallN h = H at *
  have hU := usedN_le u H
  have hUd : usedN u H = ((u % 18446744073709551616) % ((2 ^ H + 1 : Nat) : Int)).toNat := rfl
  generalize usedN u H = U at *
  have h16 := pow_le16 H (by omega)
  have HN := Lib.hid (fun W => new_yes W s H U (by omega) hU (by omega))
  have e2 : IntKind.u64.wrap u = u % 18446744073709551616 := by rw [IntKind.wrap_u64]
  have HPA := Lib.hid (fun W b hT hK => public_at W b s H U (by omega) (by omega) hT hK)
  have HPG := Lib.hid (fun W b c hK => public_grown W b s H c hK)
  have HSP := Lib.hid (fun (m : ByteArray) W b (hK : KeyGrown W b s H ((2 ^ H : Nat) : Int)) => sign_spent W b s H m (by omega) (.inr hK))
  have HSG := Lib.hid (fun (c : Nat) (m : ByteArray) (hlt : c < 2 ^ H) (hm : m.size ≤ 1000000) W b hT (hK : KeyGrown W b s H (c : Int)) => sign_any W b s H c m (by omega) hlt (by omega) hm hT (.inr hK))
  have HLV := Lib.hid (fun (c : Nat) (m : ByteArray) (hlt : c < 2 ^ H) W => leaf_yes W _ H c (sig_ok s H c m (by omega) hlt))
  have HLF := Lib.hid (fun (c : Nat) (hc : c ≤ 2 ^ H) W b (hK : KeyGrown W b s H (c : Int)) => left_any5 W b s H c (by omega) hc (.inr hK))
  have HVF := Lib.hid (fun (c : Nat) (m : ByteArray) (hlt : c < 2 ^ H) (hm : m.size ≤ 1000000) W hT => (show Calls Tryz.prog 23 #[.string (keyB s H), .string m, .string (sigB s H c m)] W fun e w' => e = .returned (.bool true) ∧ Below W.heap.size W w' by
    have hv := verify_yes W (keyB s H) m (sigB s H c m) H c (sig_ok s H c m (by omega) hlt) hm hT
    rw [sig_right s H c m hlt, (beqT _ _).2 rfl] at hv
    exact hv))
  obtain ⟨SB, hSB⟩ : ∃ SB, SB = fun c m => sigB s H c m := ⟨_, rfl⟩
  have hSBe : ∀ c m, sigB s H c m = SB c m := fun c m => by rw [hSB]
  simp only [hSBe] at HSG HLV HVF
  clear hSB hSBe
  generalize keyB s H = KB at *
  have hHc : H = 0 ∨ H = 1 ∨ H = 2 := by omega
  rcases hHc with rfl | rfl | rfl
  · simp only [Nat.reducePow, Nat.reduceAdd] at hU hUd h16 HN HSP HSG HLV HLF HVF
    first | rw [show ((0 : Nat) : Int) = 0 from rfl] at HN HSM | rw [show ((1 : Nat) : Int) = 1 from rfl] at HN HSM | rw [show ((2 : Nat) : Int) = 2 from rfl] at HN HSM
    have HUD := Lib.hid hUd
    clear hUd
    go_enter Tryz.func6, Tryz.ntmps6
    go_wp2_with (first | (go_at_call 10; refine (long5 _ _).mono ?_; rintro e w1 ⟨rfl, rfl⟩) | (go_at_call 11; refine (HAW.out _ (Below.refl _ _)).mono ?_; rintro e w1 ⟨rfl, b1⟩) | (go_at_call 17; refine (HSM.out _).mono ?_; rintro e w2 ⟨rfl, rfl⟩))
    have hud := HUD.out
    first | rw [show u % 2 = (U : Int) by omega] | rw [show u % 18446744073709551616 % 3 = (U : Int) by omega] | rw [show u % 18446744073709551616 % 5 = (U : Int) by omega]
    clear hud e2
    refine (HN.out _).mono ?_
    rintro e w3 ⟨⟨b, rfl, k3, hb⟩, b3⟩
    have hb0 := Nat.le_trans b1.size hb
    have B3 := Lib.hid (b1.trans (b3.mono b1.size))
    have HP3 := Lib.hid (HPA.out w3 b (TabsK.of HT.out B3.out hb0) (.inl k3))
    have HU0 := Lib.hid hU
    clear k3 b1 b3 HN HSM HAW HPA hb hU
    go_wp2_with fail
    refine HP3.out.mono ?_
    rintro e w4 ⟨rfl, k4, g4⟩
    have B4 := Lib.hid (B3.out.grown g4 B3.out.size (fun k hk => by cases hk; exact hb0))
    have K4 := Lib.hid k4
    have HB0 := Lib.hid hb0
    clear k4 g4 HP3 hb0
    go_wp2
    go_loopw [13] (fun i wr => ∃ k c : Nat, k ≤ ms.length ∧ c ≤ 1 ∧ i = .int .i64 k ∧ KeyGrown wr b s 0 (c : Int) ∧ Below w.heap.size w wr) (fun i _ => ms.length - (intOf i).toNat)
    case atStart => exact ⟨0, U, by omega, HU0.out, rfl, K4.out, B4.out⟩
    case round =>
      clear K4 B4 B3 HU0 HUD
      obtain ⟨k, c, hk, hc, rfl, hK, hb⟩ := hrel
      by_cases hlt : k < ms.length
      · obtain ⟨mb, mo, rfl, hmb⟩ := strRow_some HMR.out (by omega)
        have ck := strRow_cell (HMR.out.below hb) k hlt
        have HCK := Lib.hid (fun (W : World) (hB : Below w.heap.size w W) => strRow_cell (HMR.out.below hB) k hlt)
        generalize ms.getD k ByteArray.empty = m at *
        by_cases hlong : 300 < m.size
        · have HB := Lib.hid hb
          clear hK hb HCK
          go_wp2_with (go_at_call 10; refine (long5 _ _).mono ?_; rintro e w5 ⟨rfl, rfl⟩)
          go_ret
          exact ⟨rfl, HB.out⟩
        · have HL5 := Lib.hid (HLF.out c hc wr b hK)
          have hms : m.size ≤ 1000000 := by omega
          have HK := Lib.hid hK
          have HB := Lib.hid hb
          by_cases hsp : c = 1
          · subst hsp
            have HS5 := Lib.hid (HSP.out m wr b hK)
            rw [show ((1 - 1 : Nat) : Int) = 0 from rfl] at HL5
            clear hK hb HCK hmb
            go_wp2_with (first | (go_at_call 10; refine (long5 _ _).mono ?_; rintro e w5 ⟨rfl, rfl⟩) | (go_at_call 16; refine HL5.out.mono ?_; rintro e w5 ⟨rfl, rfl⟩) | (go_at_call 18; refine HS5.out.mono ?_; rintro e w5 ⟨rfl, rfl⟩))
            go_roundw
            case rel => exact ⟨k + 1, 1, by omega, by omega, by go_num, HK.out, HB.out⟩
            case measure => simp [intOf]; omega
          · have hcl : c < 1 := by omega
            have HS5 := Lib.hid (HSG.out c m hcl hms wr b (TabsK.of HT.out hb HB0.out) hK)
            have HLV5 := Lib.hid (HLV.out c m hcl)
            have HVF5 := Lib.hid (HVF.out c m hcl hms)
            have hcl2 : c + 1 ≤ 1 := by omega
            have HLF5 := Lib.hid (HLF.out (c + 1) hcl2)
            generalize SB c m = S at *
            obtain ⟨L, hL⟩ : ∃ L, L = 1 - c := ⟨_, rfl⟩
            rw [← hL] at HL5
            have hL0 : ¬ L = 0 := by omega
            have hw1 : IntKind.i64.wrap (1 - (L : Int)) = (c : Int) := by rw [IntKind.wrap_i64]; omega
            have hw2 : IntKind.i64.wrap ((L : Int) - 1) = ((1 - (c + 1) : Nat) : Int) := by rw [IntKind.wrap_i64]; omega
            have hd1 : (1 : Int) - (L : Int) = (c : Int) := by omega
            obtain ⟨M, hM⟩ : ∃ M, M = 1 - (c + 1) := ⟨_, rfl⟩
            rw [← hM] at HLF5 hw2
            have hd2 : (L : Int) - 1 = (M : Int) := by omega
            have HLL := Lib.hid hL
            clear hK hb hL hM hsp
            go_wp2_with (first | (go_at_call 10; refine (long5 _ _).mono ?_; rintro e w5 ⟨rfl, rfl⟩) | (go_at_call 16; refine HL5.out.mono ?_; rintro e w5 ⟨rfl, rfl⟩))
            refine HS5.out.mono ?_
            rintro e w6 ⟨rfl, k6, g6⟩
            have B6 := Lib.hid (HB.out.grown g6 HB.out.size (fun k hk => by cases hk; exact HB0.out))
            have K6 := Lib.hid k6
            clear k6 g6 HS5
            go_wp2_with fail
            refine (HLV5.out _).mono ?_
            rintro e w7 ⟨rfl, b7⟩
            have B7 := Lib.hid (B6.out.trans (b7.mono B6.out.size))
            have HLF7 := Lib.hid (HLF5.out w7 b (K6.out.below b7))
            have HVF7 := Lib.hid (HVF5.out w7 (HT.out.below B7.out))
            have K7 := Lib.hid (K6.out.below b7)
            have ck7 := HCK.out w7 B7.out
            clear b7 HLV5 HLF5 HVF5 K6
            go_wp2_with (first | (go_at_call 16; refine HLF7.out.mono ?_; rintro e w8 ⟨rfl, rfl⟩) | (go_at_call 23; refine HVF7.out.mono ?_; rintro e w9 ⟨rfl, b9⟩))
            go_roundw
            case rel => exact ⟨k + 1, c + 1, by omega, hcl2, by go_num, K7.out.below b9, B7.out.trans (b9.mono B7.out.size)⟩
            case measure => simp [intOf]; omega
      · obtain rfl : k = ms.length := by omega
        have HP5 := Lib.hid (HPG.out wr b c hK)
        have HB := Lib.hid hb
        clear hK hb
        go_wp2_with (go_at_call 13; refine HP5.out.mono ?_; rintro e w5 ⟨rfl, b5⟩)
        go_ret
        exact ⟨rfl, HB.out.trans (b5.mono HB.out.size)⟩
  · simp only [Nat.reducePow, Nat.reduceAdd] at hU hUd h16 HN HSP HSG HLV HLF HVF
    first | rw [show ((0 : Nat) : Int) = 0 from rfl] at HN HSM | rw [show ((1 : Nat) : Int) = 1 from rfl] at HN HSM | rw [show ((2 : Nat) : Int) = 2 from rfl] at HN HSM
    have HUD := Lib.hid hUd
    clear hUd
    go_enter Tryz.func6, Tryz.ntmps6
    go_wp2_with (first | (go_at_call 10; refine (long5 _ _).mono ?_; rintro e w1 ⟨rfl, rfl⟩) | (go_at_call 11; refine (HAW.out _ (Below.refl _ _)).mono ?_; rintro e w1 ⟨rfl, b1⟩) | (go_at_call 17; refine (HSM.out _).mono ?_; rintro e w2 ⟨rfl, rfl⟩))
    have hud := HUD.out
    first | rw [show u % 2 = (U : Int) by omega] | rw [show u % 18446744073709551616 % 3 = (U : Int) by omega] | rw [show u % 18446744073709551616 % 5 = (U : Int) by omega]
    clear hud e2
    refine (HN.out _).mono ?_
    rintro e w3 ⟨⟨b, rfl, k3, hb⟩, b3⟩
    have hb0 := Nat.le_trans b1.size hb
    have B3 := Lib.hid (b1.trans (b3.mono b1.size))
    have HP3 := Lib.hid (HPA.out w3 b (TabsK.of HT.out B3.out hb0) (.inl k3))
    have HU0 := Lib.hid hU
    clear k3 b1 b3 HN HSM HAW HPA hb hU
    go_wp2_with fail
    refine HP3.out.mono ?_
    rintro e w4 ⟨rfl, k4, g4⟩
    have B4 := Lib.hid (B3.out.grown g4 B3.out.size (fun k hk => by cases hk; exact hb0))
    have K4 := Lib.hid k4
    have HB0 := Lib.hid hb0
    clear k4 g4 HP3 hb0
    go_wp2
    go_loopw [13] (fun i wr => ∃ k c : Nat, k ≤ ms.length ∧ c ≤ 2 ∧ i = .int .i64 k ∧ KeyGrown wr b s 1 (c : Int) ∧ Below w.heap.size w wr) (fun i _ => ms.length - (intOf i).toNat)
    case atStart => exact ⟨0, U, by omega, HU0.out, rfl, K4.out, B4.out⟩
    case round =>
      clear K4 B4 B3 HU0 HUD
      obtain ⟨k, c, hk, hc, rfl, hK, hb⟩ := hrel
      by_cases hlt : k < ms.length
      · obtain ⟨mb, mo, rfl, hmb⟩ := strRow_some HMR.out (by omega)
        have ck := strRow_cell (HMR.out.below hb) k hlt
        have HCK := Lib.hid (fun (W : World) (hB : Below w.heap.size w W) => strRow_cell (HMR.out.below hB) k hlt)
        generalize ms.getD k ByteArray.empty = m at *
        by_cases hlong : 300 < m.size
        · have HB := Lib.hid hb
          clear hK hb HCK
          go_wp2_with (go_at_call 10; refine (long5 _ _).mono ?_; rintro e w5 ⟨rfl, rfl⟩)
          go_ret
          exact ⟨rfl, HB.out⟩
        · have HL5 := Lib.hid (HLF.out c hc wr b hK)
          have hms : m.size ≤ 1000000 := by omega
          have HK := Lib.hid hK
          have HB := Lib.hid hb
          by_cases hsp : c = 2
          · subst hsp
            have HS5 := Lib.hid (HSP.out m wr b hK)
            rw [show ((2 - 2 : Nat) : Int) = 0 from rfl] at HL5
            clear hK hb HCK hmb
            go_wp2_with (first | (go_at_call 10; refine (long5 _ _).mono ?_; rintro e w5 ⟨rfl, rfl⟩) | (go_at_call 16; refine HL5.out.mono ?_; rintro e w5 ⟨rfl, rfl⟩) | (go_at_call 18; refine HS5.out.mono ?_; rintro e w5 ⟨rfl, rfl⟩))
            go_roundw
            case rel => exact ⟨k + 1, 2, by omega, by omega, by go_num, HK.out, HB.out⟩
            case measure => simp [intOf]; omega
          · have hcl : c < 2 := by omega
            have HS5 := Lib.hid (HSG.out c m hcl hms wr b (TabsK.of HT.out hb HB0.out) hK)
            have HLV5 := Lib.hid (HLV.out c m hcl)
            have HVF5 := Lib.hid (HVF.out c m hcl hms)
            have hcl2 : c + 1 ≤ 2 := by omega
            have HLF5 := Lib.hid (HLF.out (c + 1) hcl2)
            generalize SB c m = S at *
            obtain ⟨L, hL⟩ : ∃ L, L = 2 - c := ⟨_, rfl⟩
            rw [← hL] at HL5
            have hL0 : ¬ L = 0 := by omega
            have hw1 : IntKind.i64.wrap (2 - (L : Int)) = (c : Int) := by rw [IntKind.wrap_i64]; omega
            have hw2 : IntKind.i64.wrap ((L : Int) - 1) = ((2 - (c + 1) : Nat) : Int) := by rw [IntKind.wrap_i64]; omega
            have hd1 : (2 : Int) - (L : Int) = (c : Int) := by omega
            obtain ⟨M, hM⟩ : ∃ M, M = 2 - (c + 1) := ⟨_, rfl⟩
            rw [← hM] at HLF5 hw2
            have hd2 : (L : Int) - 1 = (M : Int) := by omega
            have HLL := Lib.hid hL
            clear hK hb hL hM hsp
            go_wp2_with (first | (go_at_call 10; refine (long5 _ _).mono ?_; rintro e w5 ⟨rfl, rfl⟩) | (go_at_call 16; refine HL5.out.mono ?_; rintro e w5 ⟨rfl, rfl⟩))
            refine HS5.out.mono ?_
            rintro e w6 ⟨rfl, k6, g6⟩
            have B6 := Lib.hid (HB.out.grown g6 HB.out.size (fun k hk => by cases hk; exact HB0.out))
            have K6 := Lib.hid k6
            clear k6 g6 HS5
            go_wp2_with fail
            refine (HLV5.out _).mono ?_
            rintro e w7 ⟨rfl, b7⟩
            have B7 := Lib.hid (B6.out.trans (b7.mono B6.out.size))
            have HLF7 := Lib.hid (HLF5.out w7 b (K6.out.below b7))
            have HVF7 := Lib.hid (HVF5.out w7 (HT.out.below B7.out))
            have K7 := Lib.hid (K6.out.below b7)
            have ck7 := HCK.out w7 B7.out
            clear b7 HLV5 HLF5 HVF5 K6
            go_wp2_with (first | (go_at_call 16; refine HLF7.out.mono ?_; rintro e w8 ⟨rfl, rfl⟩) | (go_at_call 23; refine HVF7.out.mono ?_; rintro e w9 ⟨rfl, b9⟩))
            go_roundw
            case rel => exact ⟨k + 1, c + 1, by omega, hcl2, by go_num, K7.out.below b9, B7.out.trans (b9.mono B7.out.size)⟩
            case measure => simp [intOf]; omega
      · obtain rfl : k = ms.length := by omega
        have HP5 := Lib.hid (HPG.out wr b c hK)
        have HB := Lib.hid hb
        clear hK hb
        go_wp2_with (go_at_call 13; refine HP5.out.mono ?_; rintro e w5 ⟨rfl, b5⟩)
        go_ret
        exact ⟨rfl, HB.out.trans (b5.mono HB.out.size)⟩
  · simp only [Nat.reducePow, Nat.reduceAdd] at hU hUd h16 HN HSP HSG HLV HLF HVF
    first | rw [show ((0 : Nat) : Int) = 0 from rfl] at HN HSM | rw [show ((1 : Nat) : Int) = 1 from rfl] at HN HSM | rw [show ((2 : Nat) : Int) = 2 from rfl] at HN HSM
    have HUD := Lib.hid hUd
    clear hUd
    go_enter Tryz.func6, Tryz.ntmps6
    go_wp2_with (first | (go_at_call 10; refine (long5 _ _).mono ?_; rintro e w1 ⟨rfl, rfl⟩) | (go_at_call 11; refine (HAW.out _ (Below.refl _ _)).mono ?_; rintro e w1 ⟨rfl, b1⟩) | (go_at_call 17; refine (HSM.out _).mono ?_; rintro e w2 ⟨rfl, rfl⟩))
    have hud := HUD.out
    first | rw [show u % 2 = (U : Int) by omega] | rw [show u % 18446744073709551616 % 3 = (U : Int) by omega] | rw [show u % 18446744073709551616 % 5 = (U : Int) by omega]
    clear hud e2
    refine (HN.out _).mono ?_
    rintro e w3 ⟨⟨b, rfl, k3, hb⟩, b3⟩
    have hb0 := Nat.le_trans b1.size hb
    have B3 := Lib.hid (b1.trans (b3.mono b1.size))
    have HP3 := Lib.hid (HPA.out w3 b (TabsK.of HT.out B3.out hb0) (.inl k3))
    have HU0 := Lib.hid hU
    clear k3 b1 b3 HN HSM HAW HPA hb hU
    go_wp2_with fail
    refine HP3.out.mono ?_
    rintro e w4 ⟨rfl, k4, g4⟩
    have B4 := Lib.hid (B3.out.grown g4 B3.out.size (fun k hk => by cases hk; exact hb0))
    have K4 := Lib.hid k4
    have HB0 := Lib.hid hb0
    clear k4 g4 HP3 hb0
    go_wp2
    go_loopw [13] (fun i wr => ∃ k c : Nat, k ≤ ms.length ∧ c ≤ 4 ∧ i = .int .i64 k ∧ KeyGrown wr b s 2 (c : Int) ∧ Below w.heap.size w wr) (fun i _ => ms.length - (intOf i).toNat)
    case atStart => exact ⟨0, U, by omega, HU0.out, rfl, K4.out, B4.out⟩
    case round =>
      clear K4 B4 B3 HU0 HUD
      obtain ⟨k, c, hk, hc, rfl, hK, hb⟩ := hrel
      by_cases hlt : k < ms.length
      · obtain ⟨mb, mo, rfl, hmb⟩ := strRow_some HMR.out (by omega)
        have ck := strRow_cell (HMR.out.below hb) k hlt
        have HCK := Lib.hid (fun (W : World) (hB : Below w.heap.size w W) => strRow_cell (HMR.out.below hB) k hlt)
        generalize ms.getD k ByteArray.empty = m at *
        by_cases hlong : 300 < m.size
        · have HB := Lib.hid hb
          clear hK hb HCK
          go_wp2_with (go_at_call 10; refine (long5 _ _).mono ?_; rintro e w5 ⟨rfl, rfl⟩)
          go_ret
          exact ⟨rfl, HB.out⟩
        · have HL5 := Lib.hid (HLF.out c hc wr b hK)
          have hms : m.size ≤ 1000000 := by omega
          have HK := Lib.hid hK
          have HB := Lib.hid hb
          by_cases hsp : c = 4
          · subst hsp
            have HS5 := Lib.hid (HSP.out m wr b hK)
            rw [show ((4 - 4 : Nat) : Int) = 0 from rfl] at HL5
            clear hK hb HCK hmb
            go_wp2_with (first | (go_at_call 10; refine (long5 _ _).mono ?_; rintro e w5 ⟨rfl, rfl⟩) | (go_at_call 16; refine HL5.out.mono ?_; rintro e w5 ⟨rfl, rfl⟩) | (go_at_call 18; refine HS5.out.mono ?_; rintro e w5 ⟨rfl, rfl⟩))
            go_roundw
            case rel => exact ⟨k + 1, 4, by omega, by omega, by go_num, HK.out, HB.out⟩
            case measure => simp [intOf]; omega
          · have hcl : c < 4 := by omega
            have HS5 := Lib.hid (HSG.out c m hcl hms wr b (TabsK.of HT.out hb HB0.out) hK)
            have HLV5 := Lib.hid (HLV.out c m hcl)
            have HVF5 := Lib.hid (HVF.out c m hcl hms)
            have hcl2 : c + 1 ≤ 4 := by omega
            have HLF5 := Lib.hid (HLF.out (c + 1) hcl2)
            generalize SB c m = S at *
            obtain ⟨L, hL⟩ : ∃ L, L = 4 - c := ⟨_, rfl⟩
            rw [← hL] at HL5
            have hL0 : ¬ L = 0 := by omega
            have hw1 : IntKind.i64.wrap (4 - (L : Int)) = (c : Int) := by rw [IntKind.wrap_i64]; omega
            have hw2 : IntKind.i64.wrap ((L : Int) - 1) = ((4 - (c + 1) : Nat) : Int) := by rw [IntKind.wrap_i64]; omega
            have hd1 : (4 : Int) - (L : Int) = (c : Int) := by omega
            obtain ⟨M, hM⟩ : ∃ M, M = 4 - (c + 1) := ⟨_, rfl⟩
            rw [← hM] at HLF5 hw2
            have hd2 : (L : Int) - 1 = (M : Int) := by omega
            have HLL := Lib.hid hL
            clear hK hb hL hM hsp
            go_wp2_with (first | (go_at_call 10; refine (long5 _ _).mono ?_; rintro e w5 ⟨rfl, rfl⟩) | (go_at_call 16; refine HL5.out.mono ?_; rintro e w5 ⟨rfl, rfl⟩))
            refine HS5.out.mono ?_
            rintro e w6 ⟨rfl, k6, g6⟩
            have B6 := Lib.hid (HB.out.grown g6 HB.out.size (fun k hk => by cases hk; exact HB0.out))
            have K6 := Lib.hid k6
            clear k6 g6 HS5
            go_wp2_with fail
            refine (HLV5.out _).mono ?_
            rintro e w7 ⟨rfl, b7⟩
            have B7 := Lib.hid (B6.out.trans (b7.mono B6.out.size))
            have HLF7 := Lib.hid (HLF5.out w7 b (K6.out.below b7))
            have HVF7 := Lib.hid (HVF5.out w7 (HT.out.below B7.out))
            have K7 := Lib.hid (K6.out.below b7)
            have ck7 := HCK.out w7 B7.out
            clear b7 HLV5 HLF5 HVF5 K6
            go_wp2_with (first | (go_at_call 16; refine HLF7.out.mono ?_; rintro e w8 ⟨rfl, rfl⟩) | (go_at_call 23; refine HVF7.out.mono ?_; rintro e w9 ⟨rfl, b9⟩))
            go_roundw
            case rel => exact ⟨k + 1, c + 1, by omega, hcl2, by go_num, K7.out.below b9, B7.out.trans (b9.mono B7.out.size)⟩
            case measure => simp [intOf]; omega
      · obtain rfl : k = ms.length := by omega
        have HP5 := Lib.hid (HPG.out wr b c hK)
        have HB := Lib.hid hb
        clear hK hb
        go_wp2_with (go_at_call 13; refine HP5.out.mono ?_; rintro e w5 ⟨rfl, b5⟩)
        go_ret
        exact ⟨rfl, HB.out.trans (b5.mono HB.out.size)⟩

theorem own : ownKnob Tryz.prog.godebug = none := by kernel_rfl
theorem laidOut : laidOutB Tryz.prog = true := by kernel_rfl

set_option maxRecDepth 100000 in
theorem contract (H : Type) (enc : TypeId × Value → H) (W : World) (base : Nat) (args : Array Value) (ds gs : List (DataW H)) (before : List MemPlace)
    (hval : ∀ (j : Nat) t v, Tryz.f6.params[j]? = some t → args[j]? = some v → Value.okWide Tryz.prog W .any base t v)
    (hW : DataW.Whole enc Tryz.prog Tryz.f6.params.toList Rows.keySpendsSpec.vars false W args.toList ds gs before) (hL : laidMetH Tryz.prog Rows.keySpendsRow.laid W) :
    Calls Tryz.prog 6 args W fun e W' => ∃ v, e = .returned v ∧ Rows.keySpendsSpec.post enc Tryz.prog Tryz.f6 false true false false W args v W' := by
  have hW' := hW
  obtain ⟨p, q, hA0, hV, rfl, hfz, hnd⟩ := hW
  have hA : DataW.TrodAll enc Tryz.prog W 0 (fun _ => true) true Tryz.f6.params.toList args.toList ds p := hA0
  rw [Tryz.params6] at hA hval
  obtain ⟨v0, vs0, d0, ds0, p0, q0, hargs, rfl, rfl, h0, r0⟩ := trodAll_cons hA
  obtain ⟨v1, vs1, d1, ds1, p1, q1, rfl, rfl, rfl, h1, r1⟩ := trodAll_cons r0
  obtain ⟨v2, vs2, d2, ds2, p2, q2, rfl, rfl, rfl, h2, r2⟩ := trodAll_cons r1
  obtain ⟨v3, vs3, d3, ds3, p3, q3, rfl, rfl, rfl, h3, r3⟩ := trodAll_cons r2
  obtain ⟨rfl, rfl, rfl⟩ := trodAll_nil r3
  obtain rfl : args = #[v0, v1, v2, v3] := by cases args; simp_all
  obtain ⟨rfl, rfl⟩ := trodVars_none hV
  obtain ⟨a0, rfl, rfl, rfl, w0⟩ := open_string Tryz.underlying9 (hval 0 9 v0 rfl rfl) h0
  obtain ⟨a1, rfl, rfl, rfl, w1⟩ := open_int Tryz.underlying3 (hval 1 3 v1 rfl rfl) h1
  obtain ⟨a2, rfl, rfl, rfl, w2⟩ := open_int Tryz.underlying3 (hval 2 3 v2 rfl rfl) h2
  obtain ⟨x3, len3, cap3, rfl⟩ := okWide_slice Tryz.underlying39 (hval 3 39 v3 rfl rfl)
  have k3 := h3
  have lt3 : ∀ x ∈ p3, x.block < W.heap.size := by obtain ⟨m, hm⟩ := k3; exact DataW.trod_lt m _ _ _ hm
  obtain ⟨ss3, rfl, i3, m3⟩ : ∃ ss : List ByteArray, len3 = ss.length ∧ StrRow W x3 ss ∧ ss.length ≤ maxLen ∧ ∀ s ∈ ss, s.size ≤ maxLen := by
    obtain ⟨fuel, hf⟩ := h3
    rcases open_strings Tryz.underlying39 Tryz.underlying9 (by kernel_rfl) hf with ⟨hcs, _⟩ | ⟨x, l, c, ss, hcs, _, hl, hm, hz, _, hcell, hws⟩
    · simp [Value.cells] at hcs
      obtain ⟨rfl, rfl, rfl⟩ := hcs
      exact ⟨[], rfl, .inl rfl, Nat.zero_le _, fun s hs => by cases hs⟩
    · simp [Value.cells] at hcs
      obtain ⟨rfl, rfl, rfl⟩ := hcs
      have hz2 : ss.length = cap3 := hz.trans (if_pos rfl)
      refine ⟨ss.take len3, by simp; omega, ?_, by simp; omega, fun s hs => hws s (List.mem_of_mem_take hs)⟩
      by_cases hz0 : len3 = 0
      · exact .inl (by rw [hz0, List.take_zero])
      obtain ⟨b, off, spot⟩ := x
      have hspot : spot = none := by simpa [Addr.add] using World.cell?_spot (hcell 0 (by omega))
      subst hspot
      refine .inr ⟨b, off, rfl, ?_, fun i hi => ?_⟩
      · have hc := hcell 0 (by omega)
        rcases Nat.lt_or_ge b W.heap.size with h1 | h1
        · exact h1
        · simp [World.cell?, Addr.add, Array.getElem?_eq_none h1] at hc
      · have hi' : i < len3 := by simp at hi; omega
        have hc := hcell i (by omega)
        rw [add_plain] at hc
        rw [hc]
        simp [List.getD, hi']
  clear hA0
  refine (walk a0 a1 a2 x3 cap3 ss3 W w0 w1 w2 i3 m3 (tabs_of_laid hL)).mono fun e W' ⟨he, bel⟩ => ?_
  subst he
  exact ⟨_, rfl, _, _, _, [], _, [], hW', trodAll_mk1 (shut_bool Tryz.underlying4 _), (trodAll_cons_mk (shut_string Tryz.underlying9 w0) (trodAll_cons_mk (shut_int Tryz.underlying3 w1) (trodAll_cons_mk (shut_int Tryz.underlying3 w2) (trodAll_cons_mk (Below.trod laidOut (by kernel_rfl) (of_decide_eq_true (by kernel_rfl)) k3 bel lt3) trodAll_mk0)))), rfl, bel.frame _, fun h => by cases h⟩

theorem laid_met (os : Os) : laidMet Tryz.prog Rows.keySpendsRow.laid (({ World.holding Tryz.prog os ⟨#[], #[], []⟩ with heap := ((World.holding Tryz.prog os ⟨#[], #[], []⟩).heap.modify 0 fun | .cells _ t frozen => .cells #[.int .u32 1779033703, .int .u32 3144134277, .int .u32 1013904242, .int .u32 2773480762, .int .u32 1359893119, .int .u32 2600822924, .int .u32 528734635, .int .u32 1541459225] t frozen | o => o).modify 1 fun | .cells _ t frozen => .cells #[.int .u32 1116352408, .int .u32 1899447441, .int .u32 3049323471, .int .u32 3921009573, .int .u32 961987163, .int .u32 1508970993, .int .u32 2453635748, .int .u32 2870763221, .int .u32 3624381080, .int .u32 310598401, .int .u32 607225278, .int .u32 1426881987, .int .u32 1925078388, .int .u32 2162078206, .int .u32 2614888103, .int .u32 3248222580, .int .u32 3835390401, .int .u32 4022224774, .int .u32 264347078, .int .u32 604807628, .int .u32 770255983, .int .u32 1249150122, .int .u32 1555081692, .int .u32 1996064986, .int .u32 2554220882, .int .u32 2821834349, .int .u32 2952996808, .int .u32 3210313671, .int .u32 3336571891, .int .u32 3584528711, .int .u32 113926993, .int .u32 338241895, .int .u32 666307205, .int .u32 773529912, .int .u32 1294757372, .int .u32 1396182291, .int .u32 1695183700, .int .u32 1986661051, .int .u32 2177026350, .int .u32 2456956037, .int .u32 2730485921, .int .u32 2820302411, .int .u32 3259730800, .int .u32 3345764771, .int .u32 3516065817, .int .u32 3600352804, .int .u32 4094571909, .int .u32 275423344, .int .u32 430227734, .int .u32 506948616, .int .u32 659060556, .int .u32 883997877, .int .u32 958139571, .int .u32 1322822218, .int .u32 1537002063, .int .u32 1747873779, .int .u32 1955562222, .int .u32 2024104815, .int .u32 2227730452, .int .u32 2361852424, .int .u32 2428436474, .int .u32 2756734187, .int .u32 3204031479, .int .u32 3329325298] t frozen | o => o } : World).forCall (fun _ _ => 0) ⟨#[], #[.string ByteArray.empty, .int .i64 0, .int .i64 0, .slice none 0 0], []⟩).memory :=
  laidMet_of_run' 8 (by kernel_rfl) (by kernel_rfl)
theorem reads (os : Os) {H : Type} (enc : TypeId × Value → H) : ∃ places, DataW.whole enc Tryz.prog (({ World.holding Tryz.prog os ⟨#[], #[], []⟩ with heap := ((World.holding Tryz.prog os ⟨#[], #[], []⟩).heap.modify 0 fun | .cells _ t frozen => .cells #[.int .u32 1779033703, .int .u32 3144134277, .int .u32 1013904242, .int .u32 2773480762, .int .u32 1359893119, .int .u32 2600822924, .int .u32 528734635, .int .u32 1541459225] t frozen | o => o).modify 1 fun | .cells _ t frozen => .cells #[.int .u32 1116352408, .int .u32 1899447441, .int .u32 3049323471, .int .u32 3921009573, .int .u32 961987163, .int .u32 1508970993, .int .u32 2453635748, .int .u32 2870763221, .int .u32 3624381080, .int .u32 310598401, .int .u32 607225278, .int .u32 1426881987, .int .u32 1925078388, .int .u32 2162078206, .int .u32 2614888103, .int .u32 3248222580, .int .u32 3835390401, .int .u32 4022224774, .int .u32 264347078, .int .u32 604807628, .int .u32 770255983, .int .u32 1249150122, .int .u32 1555081692, .int .u32 1996064986, .int .u32 2554220882, .int .u32 2821834349, .int .u32 2952996808, .int .u32 3210313671, .int .u32 3336571891, .int .u32 3584528711, .int .u32 113926993, .int .u32 338241895, .int .u32 666307205, .int .u32 773529912, .int .u32 1294757372, .int .u32 1396182291, .int .u32 1695183700, .int .u32 1986661051, .int .u32 2177026350, .int .u32 2456956037, .int .u32 2730485921, .int .u32 2820302411, .int .u32 3259730800, .int .u32 3345764771, .int .u32 3516065817, .int .u32 3600352804, .int .u32 4094571909, .int .u32 275423344, .int .u32 430227734, .int .u32 506948616, .int .u32 659060556, .int .u32 883997877, .int .u32 958139571, .int .u32 1322822218, .int .u32 1537002063, .int .u32 1747873779, .int .u32 1955562222, .int .u32 2024104815, .int .u32 2227730452, .int .u32 2361852424, .int .u32 2428436474, .int .u32 2756734187, .int .u32 3204031479, .int .u32 3329325298] t frozen | o => o } : World).forCall (fun _ _ => 0) ⟨#[], #[.string ByteArray.empty, .int .i64 0, .int .i64 0, .slice none 0 0], []⟩).memory Tryz.f6.params.toList Rows.keySpendsSpec.vars false (#[.string ByteArray.empty, .int .i64 0, .int .i64 0, .slice none 0 0] : Array Value).toList 8 = some ([.lit (.string []), .lit (.int .i64 0), .lit (.int .i64 0), .nil], [], places) :=
  ⟨[], by kernel_rfl⟩

set_option maxRecDepth 100000 in
theorem lifted (os : Os) (started : os.Started) (H : Type) (enc : TypeId × Value → H) (F : Stop.Interp) :
    ReturnsInHanded {} Tryz.checked os 6 .any ((OpenSpec.ofChange Rows.keySpendsSpec).preRow enc Tryz.prog Tryz.f6 Rows.keySpendsRow.domain false Rows.keySpendsRow.laid) (((OpenSpec.ofChange Rows.keySpendsSpec).at F).post enc Tryz.prog Tryz.f6 false true false false) := by
  obtain ⟨places, hx⟩ := reads os enc
  refine returnsInHanded_of_row (C := Tryz.checked) (s := OpenSpec.ofChange Rows.keySpendsSpec) own started (by kernel_rfl) Tryz.func6
    (witness_row_at (enc := enc) (C := Tryz.checked) false ({ World.holding Tryz.prog os ⟨#[], #[], []⟩ with heap := ((World.holding Tryz.prog os ⟨#[], #[], []⟩).heap.modify 0 fun | .cells _ t frozen => .cells #[.int .u32 1779033703, .int .u32 3144134277, .int .u32 1013904242, .int .u32 2773480762, .int .u32 1359893119, .int .u32 2600822924, .int .u32 528734635, .int .u32 1541459225] t frozen | o => o).modify 1 fun | .cells _ t frozen => .cells #[.int .u32 1116352408, .int .u32 1899447441, .int .u32 3049323471, .int .u32 3921009573, .int .u32 961987163, .int .u32 1508970993, .int .u32 2453635748, .int .u32 2870763221, .int .u32 3624381080, .int .u32 310598401, .int .u32 607225278, .int .u32 1426881987, .int .u32 1925078388, .int .u32 2162078206, .int .u32 2614888103, .int .u32 3248222580, .int .u32 3835390401, .int .u32 4022224774, .int .u32 264347078, .int .u32 604807628, .int .u32 770255983, .int .u32 1249150122, .int .u32 1555081692, .int .u32 1996064986, .int .u32 2554220882, .int .u32 2821834349, .int .u32 2952996808, .int .u32 3210313671, .int .u32 3336571891, .int .u32 3584528711, .int .u32 113926993, .int .u32 338241895, .int .u32 666307205, .int .u32 773529912, .int .u32 1294757372, .int .u32 1396182291, .int .u32 1695183700, .int .u32 1986661051, .int .u32 2177026350, .int .u32 2456956037, .int .u32 2730485921, .int .u32 2820302411, .int .u32 3259730800, .int .u32 3345764771, .int .u32 3516065817, .int .u32 3600352804, .int .u32 4094571909, .int .u32 275423344, .int .u32 430227734, .int .u32 506948616, .int .u32 659060556, .int .u32 883997877, .int .u32 958139571, .int .u32 1322822218, .int .u32 1537002063, .int .u32 1747873779, .int .u32 1955562222, .int .u32 2024104815, .int .u32 2227730452, .int .u32 2361852424, .int .u32 2428436474, .int .u32 2756734187, .int .u32 3204031479, .int .u32 3329325298] t frozen | o => o } : World) #[.string ByteArray.empty, .int .i64 0, .int .i64 0, .slice none 0 0] rfl (by kernel_rfl) (by kernel_rfl) (by kernel_rfl)
      (OpenSpec.preRow_of_cond 8 hx (by kernel_rfl) (fun k hk => by cases hk) (by kernel_rfl) (laid_met os))) ?_
  intro W base args ds gs before hval hW _ _ _ hL _ _
  exact contract H enc W base args ds gs before hval hW hL

theorem said : Rows.KeySpendsSaid :=
  OpenClaim.holds_of_cond 6 Tryz.f6 rfl rfl rfl rfl rfl rfl rfl ⟨rfl, rfl, rfl, rfl, rfl⟩ rfl rfl rfl rfl rfl (by kernel_rfl) Tryz.func6 (by kernel_rfl)
    (of_decide_eq_true (by kernel_rfl)) (by unfold Func.isWrapper; first | (rw [if_pos (by decide +kernel)]; kernel_rfl) | (rw [if_neg (by decide +kernel)]; exact ⟨rfl, rfl⟩))
    (fun os started H enc _ F => by rw [OpenClaim.pre_eq_preRow]; exact lifted os started H enc F)

theorem plain (f : FuncId) (fn : Func) (hf : Tryz.pinned.checked.prog.funcNamed Rows.keySpendsRow.func = some f) (hfn : Tryz.pinned.checked.prog.funcs[f]? = some fn) :
    false = Tryz.pinned.checked.prog.looks [] ∧ ∀ (j : Nat) t, fn.params[j]? = some t → Tryz.pinned.checked.prog.wantsStandIn t = false := by
  obtain rfl : f = 6 := Option.some.inj ((show Tryz.prog.funcNamed Rows.keySpendsRow.func = some 6 by kernel_rfl).symm.trans hf) |>.symm
  obtain rfl : fn = Tryz.f6 := (Option.some.inj (Tryz.func6.symm.trans hfn)).symm
  refine ⟨by kernel_rfl, fun j t ht => ?_⟩
  rw [Tryz.params6] at ht
  have hm : t = 9 ∨ t = 3 ∨ t = 39 := by first | simpa using Array.mem_of_getElem? ht | (have h := Array.mem_of_getElem? ht; simp only [List.mem_toArray, List.mem_cons, List.not_mem_nil, or_false] at h; rcases h with rfl | rfl | rfl | rfl <;> simp)
  rcases hm with rfl | rfl | rfl
  · exact (show Tryz.prog.wantsStandIn 9 = false by kernel_rfl)
  · exact (show Tryz.prog.wantsStandIn 3 = false by kernel_rfl)
  · exact (show Tryz.prog.wantsStandIn 39 = false by kernel_rfl)

theorem card : Rows.KeySpendsCardSaid :=
  Claim7.holds_tied_plain_at .later [] _ _ _ _ said (fun _ h => by cases h) (by kernel_rfl) (fun _ h => by cases h) keySpends_row_tie rfl ⟨rfl, rfl⟩ (by kernel_rfl) rfl plain (by kernel_rfl)

end Go.Proofs.YtanplccigmihfaaGreatDoor.KeySpends
namespace Go.Proofs.YtanplccigmihfaaGreatDoor
theorem keySpends_card : Rows.KeySpendsCardSaid := KeySpends.card
#print axioms keySpends_card
end Go.Proofs.YtanplccigmihfaaGreatDoor

