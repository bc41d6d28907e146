/-
  P5.1: what any key signs of any message is the document's, by its next leaf; or it is spent: for every text as a seed, every two ints made a height and a count of used leaves, and every text as a message.
  The tables of the program start as its text lays them (the card ties them).
-/
import Derived.Test.YtanplccigmihfaaGreatDoorLaid
import Derived.Test.YtanplccigmihfaaGreatDoorB7
import Derived.ProofKit
import Derived.OpenShut
import Derived.ShutString
import Derived.ChangeOld
import Derived.SevenTiedAt
import Derived.SliceStrings
namespace Go.Proofs.YtanplccigmihfaaGreatDoor.KeySigns
open Go.ChangeShapes Go.WideShapes Go.ChangeAt Go.RowKit Go.Pal
open Go.ChangeMaps (open_string shut_string)
set_option linter.unusedVariables false

theorem sig_ok (seed : ByteArray) (h leaf : Nat) (m : ByteArray) (hh : h ≤ 4) (hl : leaf < 2 ^ h) : SigOk (sigB seed h leaf m) h leaf :=
  ⟨hh, sigB_size _ _ _ _ hl, (sig_leaf _ _ _ _ (by have := pow_le16 h hh; omega)).symm, hl⟩

/-- What is left of a count behind a division by one more than there are leaves. -/
def usedN (u : Int) (h : Nat) : Nat := ((u % 18446744073709551616) % ((2 ^ h + 1 : Nat) : Int)).toNat
theorem usedN_le (u : Int) (h : Nat) : usedN u h ≤ 2 ^ h := by
  unfold usedN
  generalize 2 ^ h = n
  have := Int.emod_lt_of_pos (u % 18446744073709551616) (show (0 : Int) < ((n + 1 : Nat) : Int) by omega)
  omega

set_option maxHeartbeats 2000000 in
set_option maxRecDepth 100000 in
theorem walk (s : ByteArray) (h u : Int) (m : ByteArray) (hs : s.size ≤ maxLen) (wh : (Lit.int .i64 h).wf = true) (wu : (Lit.int .i64 u).wf = true) (hm : m.size ≤ maxLen) (w : World) (ht : Tabs w) :
    Calls Tryz.prog 4 #[.string s, .int .i64 h, .int .i64 u, .string m] w fun e w' => e = .returned (.bool true) ∧ Below w.heap.size w w' := by
  have HAW := Lib.hid (fun (W : World) (hb : Below w.heap.size w W) => awake5 W (ht.below hb))
  have HT := Lib.hid ht
  have hnot : ∀ (x : Bool) (w : World), (Op.unary .not (.bool x)).run Tryz.prog w = .ok (.bool (!x)) w := fun _ _ => rfl
  clear ht wh wu hs hm
  by_cases h1 : 300 < s.size
  · go_enter Tryz.func4, Tryz.ntmps4
    go_wp2_with (first | (go_at_call 10; refine (long5 _ _).mono ?_; rintro e w1 ⟨rfl, rfl⟩) | (go_at_call 11; refine (HAW.out _ (Below.refl _ _)).mono ?_; rintro e w1 ⟨rfl, b1⟩))
    go_ret
    exact ⟨rfl, b1⟩
  by_cases h2 : 300 < m.size
  · go_enter Tryz.func4, Tryz.ntmps4
    go_wp2_with (first | (go_at_call 10; refine (long5 _ _).mono ?_; rintro e w1 ⟨rfl, rfl⟩) | (go_at_call 11; refine (HAW.out _ (Below.refl _ _)).mono ?_; rintro e w1 ⟨rfl, b1⟩))
    go_ret
    exact ⟨rfl, b1⟩
  have hH := smallN_le h
  have HSM := Lib.hid (fun W => small5 h W)
  generalize smallN h = H at *
  have hU := usedN_le u H
  have hUd : usedN u H = ((u % 18446744073709551616) % ((2 ^ H + 1 : Nat) : Int)).toNat := rfl
  generalize usedN u H = U at *
  have h16 := pow_le16 H (by omega)
  have HN := Lib.hid (fun W => new_yes W s H U (by omega) hU (by omega))
  have e2 : IntKind.u64.wrap u = u % 18446744073709551616 := by rw [IntKind.wrap_u64]
  have HSP := Lib.hid (fun (e : U = 2 ^ H) W b (hK : KeyAt W b s H (U : Int)) => sign_spent W b s H m (by omega) (by rw [← e]; exact hK))
  have HSG := Lib.hid (fun (hlt : U < 2 ^ H) W b hT (hK : KeyAt W b s H (U : Int)) => sign_any W b s H U m (by omega) hlt (by omega) (by omega) hT hK)
  have HRS := Lib.hid (fun (hlt : U < 2 ^ H) W => refsign5 W s H U m (by omega) hlt (by omega) (by omega))
  have HLF := Lib.hid (fun (hlt : U < 2 ^ H) W => leaf_yes W _ H U (sig_ok s H U m (by omega) hlt))
  have HUS := Lib.hid (fun W b u hK => used_any W b s H u hK)
  generalize sigB s H U m = S at *
  have hHc : H = 0 ∨ H = 1 ∨ H = 2 := by omega
  have hw : IntKind.i64.wrap ((U : Int) + 1) = ((U + 1 : Nat) : Int) := by rw [IntKind.wrap_i64]; omega
  by_cases hsp : U = 2 ^ H
  · have HSP2 := Lib.hid (HSP.out hsp)
    clear HSP HSG HRS HLF hw
    rcases hHc with rfl | rfl | rfl
    all_goals
      simp only [Nat.reducePow, Nat.reduceAdd] at hU hUd h16 HN hsp
      first | rw [show ((0 : Nat) : Int) = 0 from rfl] at HN HSM | rw [show ((1 : Nat) : Int) = 1 from rfl] at HN HSM | rw [show ((2 : Nat) : Int) = 2 from rfl] at HN HSM
      have HUD := Lib.hid hUd
      clear hUd
      go_enter Tryz.func4, Tryz.ntmps4
      go_wp2_with (first | (go_at_call 10; refine (long5 _ _).mono ?_; rintro e w1 ⟨rfl, rfl⟩) | (go_at_call 11; refine (HAW.out _ (Below.refl _ _)).mono ?_; rintro e w1 ⟨rfl, b1⟩) | (go_at_call 17; refine (HSM.out _).mono ?_; rintro e w2 ⟨rfl, rfl⟩))
      have hud := HUD.out
      first | rw [show u % 2 = (U : Int) by omega] | rw [show u % 18446744073709551616 % 3 = (U : Int) by omega] | rw [show u % 18446744073709551616 % 5 = (U : Int) by omega]
      clear hud e2
      refine (HN.out _).mono ?_
      rintro e w3 ⟨⟨b, rfl, k3, hb⟩, b3⟩
      have B3 := Lib.hid (b1.trans (b3.mono b1.size))
      have HS3 := Lib.hid (HSP2.out w3 b (.inl k3))
      have HU3 := Lib.hid (HUS.out w3 b _ (.inl k3))
      clear k3 b1 b3 HN HSM HAW
      subst hsp
      go_wp2_with (first | (go_at_call 18; refine HS3.out.mono ?_; rintro e w4 ⟨rfl, rfl⟩) | (go_at_call 15; refine HU3.out.mono ?_; rintro e w5 ⟨rfl, rfl⟩))
      go_ret
      exact ⟨rfl, B3.out⟩
  · have hlt : U < 2 ^ H := by omega
    have HSG2 := Lib.hid (HSG.out hlt)
    have HRS2 := Lib.hid (HRS.out hlt)
    have HLF2 := Lib.hid (HLF.out hlt)
    clear HSP HSG HRS HLF
    rcases hHc with rfl | rfl | rfl
    all_goals
      simp only [Nat.reducePow, Nat.reduceAdd] at hU hUd h16 HN hsp
      first | rw [show ((0 : Nat) : Int) = 0 from rfl] at HN HSM HRS2 | rw [show ((1 : Nat) : Int) = 1 from rfl] at HN HSM HRS2 | rw [show ((2 : Nat) : Int) = 2 from rfl] at HN HSM HRS2
      have HUD := Lib.hid hUd
      clear hUd
      go_enter Tryz.func4, Tryz.ntmps4
      go_wp2_with (first | (go_at_call 10; refine (long5 _ _).mono ?_; rintro e w1 ⟨rfl, rfl⟩) | (go_at_call 11; refine (HAW.out _ (Below.refl _ _)).mono ?_; rintro e w1 ⟨rfl, b1⟩) | (go_at_call 17; refine (HSM.out _).mono ?_; rintro e w2 ⟨rfl, rfl⟩))
      have hud := HUD.out
      first | rw [show u % 2 = (U : Int) by omega] | rw [show u % 18446744073709551616 % 3 = (U : Int) by omega] | rw [show u % 18446744073709551616 % 5 = (U : Int) by omega]
      clear hud e2
      refine (HN.out _).mono ?_
      rintro e w3 ⟨⟨b, rfl, k3, hb⟩, b3⟩
      have hb0 := Nat.le_trans b1.size hb
      have B3 := Lib.hid (b1.trans (b3.mono b1.size))
      have HS3 := Lib.hid (HSG2.out w3 b (TabsK.of HT.out B3.out hb0) (.inl k3))
      clear k3 b1 b3 HN HSM HAW HSG2
      go_wp2_with fail
      refine HS3.out.mono ?_
      rintro e w4 ⟨rfl, k4, g4⟩
      have B4 := Lib.hid (B3.out.grown g4 B3.out.size (fun k hk => by cases hk; exact hb0))
      have K4 := Lib.hid k4
      clear k4 g4 HS3
      go_wp2_with (first | (go_at_call 19; refine (HLF2.out _).mono ?_; rintro e w5 ⟨rfl, b5⟩) | (go_at_call 20; refine (HRS2.out _).mono ?_; rintro e w6 ⟨rfl, b6⟩) | (go_at_call 15; refine (HUS.out _ b _ (.inr ((K4.out.below b5).below b6))).mono ?_; rintro e w7 ⟨rfl, rfl⟩))
      go_ret
      have C5 := B4.out.trans (b5.mono B4.out.size)
      exact ⟨by first | rfl | simp, C5.trans (b6.mono C5.size)⟩

theorem own : ownKnob Tryz.prog.godebug = none := by kernel_rfl
theorem laidOut : laidOutB Tryz.prog = true := by kernel_rfl

set_option maxRecDepth 100000 in
theorem contract (H : Type) (enc : TypeId × Value → H) (W : World) (base : Nat) (args : Array Value) (ds gs : List (DataW H)) (before : List MemPlace)
    (hval : ∀ (j : Nat) t v, Tryz.f4.params[j]? = some t → args[j]? = some v → Value.okWide Tryz.prog W .any base t v)
    (hW : DataW.Whole enc Tryz.prog Tryz.f4.params.toList Rows.keySignsSpec.vars false W args.toList ds gs before) (hL : laidMetH Tryz.prog Rows.keySignsRow.laid W) :
    Calls Tryz.prog 4 args W fun e W' => ∃ v, e = .returned v ∧ Rows.keySignsSpec.post enc Tryz.prog Tryz.f4 false true false false W args v W' := by
  have hW' := hW
  obtain ⟨p, q, hA0, hV, rfl, hfz, hnd⟩ := hW
  have hA : DataW.TrodAll enc Tryz.prog W 0 (fun _ => true) true Tryz.f4.params.toList args.toList ds p := hA0
  rw [Tryz.params4] at hA hval
  obtain ⟨v0, vs0, d0, ds0, p0, q0, hargs, rfl, rfl, h0, r0⟩ := trodAll_cons hA
  obtain ⟨v1, vs1, d1, ds1, p1, q1, rfl, rfl, rfl, h1, r1⟩ := trodAll_cons r0
  obtain ⟨v2, vs2, d2, ds2, p2, q2, rfl, rfl, rfl, h2, r2⟩ := trodAll_cons r1
  obtain ⟨v3, vs3, d3, ds3, p3, q3, rfl, rfl, rfl, h3, r3⟩ := trodAll_cons r2
  obtain ⟨rfl, rfl, rfl⟩ := trodAll_nil r3
  obtain rfl : args = #[v0, v1, v2, v3] := by cases args; simp_all
  obtain ⟨rfl, rfl⟩ := trodVars_none hV
  obtain ⟨a0, rfl, rfl, rfl, w0⟩ := open_string Tryz.underlying9 (hval 0 9 v0 rfl rfl) h0
  obtain ⟨a1, rfl, rfl, rfl, w1⟩ := open_int Tryz.underlying3 (hval 1 3 v1 rfl rfl) h1
  obtain ⟨a2, rfl, rfl, rfl, w2⟩ := open_int Tryz.underlying3 (hval 2 3 v2 rfl rfl) h2
  obtain ⟨a3, rfl, rfl, rfl, w3⟩ := open_string Tryz.underlying9 (hval 3 9 v3 rfl rfl) h3
  clear hA0
  refine (walk a0 a1 a2 a3 w0 w1 w2 w3 W (tabs_of_laid hL)).mono fun e W' ⟨he, bel⟩ => ?_
  subst he
  exact ⟨_, rfl, _, _, _, [], [], [], hW', trodAll_mk1 (shut_bool Tryz.underlying4 _), (trodAll_cons_mk (shut_string Tryz.underlying9 w0) (trodAll_cons_mk (shut_int Tryz.underlying3 w1) (trodAll_cons_mk (shut_int Tryz.underlying3 w2) (trodAll_cons_mk (shut_string Tryz.underlying9 w3) trodAll_mk0)))), rfl, bel.frame _, fun h => by cases h⟩

theorem laid_met (os : Os) : laidMet Tryz.prog Rows.keySignsRow.laid (({ World.holding Tryz.prog os ⟨#[], #[], []⟩ with heap := ((World.holding Tryz.prog os ⟨#[], #[], []⟩).heap.modify 0 fun | .cells _ t frozen => .cells #[.int .u32 1779033703, .int .u32 3144134277, .int .u32 1013904242, .int .u32 2773480762, .int .u32 1359893119, .int .u32 2600822924, .int .u32 528734635, .int .u32 1541459225] t frozen | o => o).modify 1 fun | .cells _ t frozen => .cells #[.int .u32 1116352408, .int .u32 1899447441, .int .u32 3049323471, .int .u32 3921009573, .int .u32 961987163, .int .u32 1508970993, .int .u32 2453635748, .int .u32 2870763221, .int .u32 3624381080, .int .u32 310598401, .int .u32 607225278, .int .u32 1426881987, .int .u32 1925078388, .int .u32 2162078206, .int .u32 2614888103, .int .u32 3248222580, .int .u32 3835390401, .int .u32 4022224774, .int .u32 264347078, .int .u32 604807628, .int .u32 770255983, .int .u32 1249150122, .int .u32 1555081692, .int .u32 1996064986, .int .u32 2554220882, .int .u32 2821834349, .int .u32 2952996808, .int .u32 3210313671, .int .u32 3336571891, .int .u32 3584528711, .int .u32 113926993, .int .u32 338241895, .int .u32 666307205, .int .u32 773529912, .int .u32 1294757372, .int .u32 1396182291, .int .u32 1695183700, .int .u32 1986661051, .int .u32 2177026350, .int .u32 2456956037, .int .u32 2730485921, .int .u32 2820302411, .int .u32 3259730800, .int .u32 3345764771, .int .u32 3516065817, .int .u32 3600352804, .int .u32 4094571909, .int .u32 275423344, .int .u32 430227734, .int .u32 506948616, .int .u32 659060556, .int .u32 883997877, .int .u32 958139571, .int .u32 1322822218, .int .u32 1537002063, .int .u32 1747873779, .int .u32 1955562222, .int .u32 2024104815, .int .u32 2227730452, .int .u32 2361852424, .int .u32 2428436474, .int .u32 2756734187, .int .u32 3204031479, .int .u32 3329325298] t frozen | o => o } : World).forCall (fun _ _ => 0) ⟨#[], #[.string ByteArray.empty, .int .i64 0, .int .i64 0, .string ByteArray.empty], []⟩).memory :=
  laidMet_of_run' 8 (by kernel_rfl) (by kernel_rfl)
theorem reads (os : Os) {H : Type} (enc : TypeId × Value → H) : ∃ places, DataW.whole enc Tryz.prog (({ World.holding Tryz.prog os ⟨#[], #[], []⟩ with heap := ((World.holding Tryz.prog os ⟨#[], #[], []⟩).heap.modify 0 fun | .cells _ t frozen => .cells #[.int .u32 1779033703, .int .u32 3144134277, .int .u32 1013904242, .int .u32 2773480762, .int .u32 1359893119, .int .u32 2600822924, .int .u32 528734635, .int .u32 1541459225] t frozen | o => o).modify 1 fun | .cells _ t frozen => .cells #[.int .u32 1116352408, .int .u32 1899447441, .int .u32 3049323471, .int .u32 3921009573, .int .u32 961987163, .int .u32 1508970993, .int .u32 2453635748, .int .u32 2870763221, .int .u32 3624381080, .int .u32 310598401, .int .u32 607225278, .int .u32 1426881987, .int .u32 1925078388, .int .u32 2162078206, .int .u32 2614888103, .int .u32 3248222580, .int .u32 3835390401, .int .u32 4022224774, .int .u32 264347078, .int .u32 604807628, .int .u32 770255983, .int .u32 1249150122, .int .u32 1555081692, .int .u32 1996064986, .int .u32 2554220882, .int .u32 2821834349, .int .u32 2952996808, .int .u32 3210313671, .int .u32 3336571891, .int .u32 3584528711, .int .u32 113926993, .int .u32 338241895, .int .u32 666307205, .int .u32 773529912, .int .u32 1294757372, .int .u32 1396182291, .int .u32 1695183700, .int .u32 1986661051, .int .u32 2177026350, .int .u32 2456956037, .int .u32 2730485921, .int .u32 2820302411, .int .u32 3259730800, .int .u32 3345764771, .int .u32 3516065817, .int .u32 3600352804, .int .u32 4094571909, .int .u32 275423344, .int .u32 430227734, .int .u32 506948616, .int .u32 659060556, .int .u32 883997877, .int .u32 958139571, .int .u32 1322822218, .int .u32 1537002063, .int .u32 1747873779, .int .u32 1955562222, .int .u32 2024104815, .int .u32 2227730452, .int .u32 2361852424, .int .u32 2428436474, .int .u32 2756734187, .int .u32 3204031479, .int .u32 3329325298] t frozen | o => o } : World).forCall (fun _ _ => 0) ⟨#[], #[.string ByteArray.empty, .int .i64 0, .int .i64 0, .string ByteArray.empty], []⟩).memory Tryz.f4.params.toList Rows.keySignsSpec.vars false (#[.string ByteArray.empty, .int .i64 0, .int .i64 0, .string ByteArray.empty] : Array Value).toList 8 = some ([.lit (.string []), .lit (.int .i64 0), .lit (.int .i64 0), .lit (.string [])], [], places) :=
  ⟨[], by kernel_rfl⟩

set_option maxRecDepth 100000 in
theorem lifted (os : Os) (started : os.Started) (H : Type) (enc : TypeId × Value → H) (F : Stop.Interp) :
    ReturnsInHanded {} Tryz.checked os 4 .any ((OpenSpec.ofChange Rows.keySignsSpec).preRow enc Tryz.prog Tryz.f4 Rows.keySignsRow.domain false Rows.keySignsRow.laid) (((OpenSpec.ofChange Rows.keySignsSpec).at F).post enc Tryz.prog Tryz.f4 false true false false) := by
  obtain ⟨places, hx⟩ := reads os enc
  refine returnsInHanded_of_row (C := Tryz.checked) (s := OpenSpec.ofChange Rows.keySignsSpec) own started (by kernel_rfl) Tryz.func4
    (witness_row_at (enc := enc) (C := Tryz.checked) false ({ World.holding Tryz.prog os ⟨#[], #[], []⟩ with heap := ((World.holding Tryz.prog os ⟨#[], #[], []⟩).heap.modify 0 fun | .cells _ t frozen => .cells #[.int .u32 1779033703, .int .u32 3144134277, .int .u32 1013904242, .int .u32 2773480762, .int .u32 1359893119, .int .u32 2600822924, .int .u32 528734635, .int .u32 1541459225] t frozen | o => o).modify 1 fun | .cells _ t frozen => .cells #[.int .u32 1116352408, .int .u32 1899447441, .int .u32 3049323471, .int .u32 3921009573, .int .u32 961987163, .int .u32 1508970993, .int .u32 2453635748, .int .u32 2870763221, .int .u32 3624381080, .int .u32 310598401, .int .u32 607225278, .int .u32 1426881987, .int .u32 1925078388, .int .u32 2162078206, .int .u32 2614888103, .int .u32 3248222580, .int .u32 3835390401, .int .u32 4022224774, .int .u32 264347078, .int .u32 604807628, .int .u32 770255983, .int .u32 1249150122, .int .u32 1555081692, .int .u32 1996064986, .int .u32 2554220882, .int .u32 2821834349, .int .u32 2952996808, .int .u32 3210313671, .int .u32 3336571891, .int .u32 3584528711, .int .u32 113926993, .int .u32 338241895, .int .u32 666307205, .int .u32 773529912, .int .u32 1294757372, .int .u32 1396182291, .int .u32 1695183700, .int .u32 1986661051, .int .u32 2177026350, .int .u32 2456956037, .int .u32 2730485921, .int .u32 2820302411, .int .u32 3259730800, .int .u32 3345764771, .int .u32 3516065817, .int .u32 3600352804, .int .u32 4094571909, .int .u32 275423344, .int .u32 430227734, .int .u32 506948616, .int .u32 659060556, .int .u32 883997877, .int .u32 958139571, .int .u32 1322822218, .int .u32 1537002063, .int .u32 1747873779, .int .u32 1955562222, .int .u32 2024104815, .int .u32 2227730452, .int .u32 2361852424, .int .u32 2428436474, .int .u32 2756734187, .int .u32 3204031479, .int .u32 3329325298] t frozen | o => o } : World) #[.string ByteArray.empty, .int .i64 0, .int .i64 0, .string ByteArray.empty] rfl (by kernel_rfl) (by kernel_rfl) (by kernel_rfl)
      (OpenSpec.preRow_of_cond 8 hx (by kernel_rfl) (fun k hk => by cases hk) (by kernel_rfl) (laid_met os))) ?_
  intro W base args ds gs before hval hW _ _ _ hL _ _
  exact contract H enc W base args ds gs before hval hW hL

theorem said : Rows.KeySignsSaid :=
  OpenClaim.holds_of_cond 4 Tryz.f4 rfl rfl rfl rfl rfl rfl rfl ⟨rfl, rfl, rfl, rfl, rfl⟩ rfl rfl rfl rfl rfl (by kernel_rfl) Tryz.func4 (by kernel_rfl)
    (of_decide_eq_true (by kernel_rfl)) (by unfold Func.isWrapper; first | (rw [if_pos (by decide +kernel)]; kernel_rfl) | (rw [if_neg (by decide +kernel)]; exact ⟨rfl, rfl⟩))
    (fun os started H enc _ F => by rw [OpenClaim.pre_eq_preRow]; exact lifted os started H enc F)

theorem plain (f : FuncId) (fn : Func) (hf : Tryz.pinned.checked.prog.funcNamed Rows.keySignsRow.func = some f) (hfn : Tryz.pinned.checked.prog.funcs[f]? = some fn) :
    false = Tryz.pinned.checked.prog.looks [] ∧ ∀ (j : Nat) t, fn.params[j]? = some t → Tryz.pinned.checked.prog.wantsStandIn t = false := by
  obtain rfl : f = 4 := Option.some.inj ((show Tryz.prog.funcNamed Rows.keySignsRow.func = some 4 by kernel_rfl).symm.trans hf) |>.symm
  obtain rfl : fn = Tryz.f4 := (Option.some.inj (Tryz.func4.symm.trans hfn)).symm
  refine ⟨by kernel_rfl, fun j t ht => ?_⟩
  rw [Tryz.params4] at ht
  have hm : t = 9 ∨ t = 3 := by first | simpa using Array.mem_of_getElem? ht | (have h := Array.mem_of_getElem? ht; simp only [List.mem_toArray, List.mem_cons, List.not_mem_nil, or_false] at h; rcases h with rfl | rfl | rfl | rfl <;> simp)
  rcases hm with rfl | rfl
  · exact (show Tryz.prog.wantsStandIn 9 = false by kernel_rfl)
  · exact (show Tryz.prog.wantsStandIn 3 = false by kernel_rfl)

theorem card : Rows.KeySignsCardSaid :=
  Claim7.holds_tied_plain_at .later [] _ _ _ _ said (fun _ h => by cases h) (by kernel_rfl) (fun _ h => by cases h) keySigns_row_tie rfl ⟨rfl, rfl⟩ (by kernel_rfl) rfl plain (by kernel_rfl)

end Go.Proofs.YtanplccigmihfaaGreatDoor.KeySigns
namespace Go.Proofs.YtanplccigmihfaaGreatDoor
theorem keySigns_card : Rows.KeySignsCardSaid := KeySigns.card
#print axioms keySigns_card
end Go.Proofs.YtanplccigmihfaaGreatDoor

