/-
  P5.1: of any seed, height and count of used leaves the key's public, used and left leaves; or that there is no key: for every text and every two ints.
  The tables of the program start as its text lays them (the card ties them).
-/
import Derived.Test.YtanplccigmihfaaGreatDoorLaid
import Derived.Test.YtanplccigmihfaaGreatDoorB6
import Derived.ProofKit
import Derived.OpenShut
import Derived.ShutString
import Derived.ChangeOld
import Derived.SevenTiedAt
import Derived.SliceStrings
namespace Go.Proofs.YtanplccigmihfaaGreatDoor.KeyMakes
open Go.ChangeShapes Go.WideShapes Go.ChangeAt Go.RowKit Go.Pal
open Go.ChangeMaps (open_string shut_string)
set_option linter.unusedVariables false

set_option maxHeartbeats 2000000 in
set_option maxRecDepth 100000 in
theorem walk (s : ByteArray) (h u : Int) (hs : s.size ≤ maxLen) (wh : (Lit.int .i64 h).wf = true) (wu : (Lit.int .i64 u).wf = true) (w : World) (ht : Tabs w) :
    Calls Tryz.prog 3 #[.string s, .int .i64 h, .int .i64 u] w fun e w' => e = .returned (.bool true) ∧ Below w.heap.size w w' := by
  have bh := bounds_i64 wh
  have bu := bounds_i64 wu
  have HAW := Lib.hid (fun (W : World) (hb : Below w.heap.size w W) => awake5 W (ht.below hb))
  have HT := Lib.hid ht
  have hnot : ∀ (x : Bool) (w : World), (Op.unary .not (.bool x)).run Tryz.prog w = .ok (.bool (!x)) w := fun _ _ => rfl
  clear ht wh wu hs
  by_cases h1 : 300 < s.size
  · go_enter Tryz.func3, Tryz.ntmps3
    go_wp2_with (first | (go_at_call 10; refine (long5 s _).mono ?_; rintro e w1 ⟨rfl, rfl⟩) | (go_at_call 11; refine (HAW.out _ (Below.refl _ _)).mono ?_; rintro e w1 ⟨rfl, b1⟩))
    go_ret
    exact ⟨rfl, b1⟩
  by_cases h2 : 3 ≤ h ∧ h ≤ 4
  · obtain ⟨h3, h4⟩ := h2
    go_enter Tryz.func3, Tryz.ntmps3
    go_wp2_with (first | (go_at_call 10; refine (long5 s _).mono ?_; rintro e w1 ⟨rfl, rfl⟩) | (go_at_call 11; refine (HAW.out _ (Below.refl _ _)).mono ?_; rintro e w1 ⟨rfl, b1⟩))
    go_ret
    exact ⟨rfl, b1⟩
  have HPS := Lib.hid (fun k : Nat => (Nat.pow_succ 2 k : 2 ^ (k + 1) = 2 ^ k * 2))
  have HPW := Lib.hid (fun (k : Nat) (hk : k ≤ 5) => (Nat.pow_le_pow_right (by omega) hk : 2 ^ k ≤ 2 ^ 5))
  by_cases hv : 0 ≤ h ∧ h ≤ 4 ∧ 0 ≤ u ∧ u ≤ ((2 ^ h.toNat : Nat) : Int)
  · obtain ⟨H, rfl⟩ : ∃ H : Nat, h = H := ⟨h.toNat, by omega⟩
    obtain ⟨U, rfl⟩ : ∃ U : Nat, u = U := ⟨u.toNat, by omega⟩
    rw [Int.toNat_natCast] at hv
    have hH : H ≤ 2 := by omega
    have hU : U ≤ 2 ^ H := by omega
    have HN := Lib.hid (fun W => new_yes W s H U (by omega) hU (by omega))
    have HRP := Lib.hid (fun W => refpublic5 W s H (by omega) (by omega))
    have HPA := Lib.hid (fun W b hT hK => public_at W b s H U (by omega) (by omega) hT hK)
    have HUS := Lib.hid (fun W b hK => used_any W b s H U hK)
    have HLF := Lib.hid (fun W b hK => left_any5 W b s H U (by omega) hU hK)
    have hH4 : ¬ 4 < H := by omega
    have hH3 : ¬ 3 ≤ H := by omega
    have h16 := pow_le16 H (by omega)
    have HUH := Lib.hid hU
    generalize keyB s H = KB at *
    clear hv h2 bh bu hU
    go_enter Tryz.func3, Tryz.ntmps3
    go_wp2_with (first | (go_at_call 10; refine (long5 s _).mono ?_; rintro e w1 ⟨rfl, rfl⟩) | (go_at_call 11; refine (HAW.out _ (Below.refl _ _)).mono ?_; rintro e w1 ⟨rfl, b1⟩))
    refine (HN.out _).mono ?_
    rintro e w2 ⟨⟨b, rfl, k2, hb⟩, b2⟩
    have B2 := Lib.hid (b1.trans (b2.mono b1.size))
    have K2 := Lib.hid k2
    have HBB := Lib.hid (Nat.le_trans b1.size hb)
    clear k2 b1 b2 hb HN HAW
    go_wp2
    go_loopw [8, 9] (fun n i wr => ∃ k : Nat, k ≤ H ∧ i = .int .i64 k ∧ n = .int .i64 ((2 ^ k : Nat) : Int) ∧ wr = w2) (fun _ i _ => H - (intOf i).toNat)
    case atStart => exact ⟨0, by omega, rfl, rfl, rfl⟩
    case round =>
      obtain ⟨k, hk, rfl, rfl, rfl⟩ := hrel
      by_cases hlt : k < H
      · have hp := HPW.out k (by omega)
        have HE := Lib.hid (HPS.out k)
        have hk5 : k < 5 := by omega
        generalize 2 ^ k = q at *
        have hw : IntKind.i64.wrap (2 * (q : Int)) = 2 * (q : Int) := by rw [IntKind.wrap_i64]; omega
        go_wp2
        go_roundw
        case rel => exact ⟨k + 1, by omega, by go_num, by rw [HE.out]; first | (congr 1; omega) | (congr 2; omega), by first | rfl | trivial⟩
        case measure => simp [intOf]; omega
      · obtain rfl : k = H := by omega
        have HPA2 := Lib.hid (HPA.out wr b (TabsK.of HT.out B2.out HBB.out) (.inl K2.out))
        have hUn := HUH.out
        generalize 2 ^ k = n at *
        have hUn2 : ¬ n < U := by omega
        have hw : IntKind.i64.wrap ((n : Int) - U) = ((n - U : Nat) : Int) := by rw [IntKind.wrap_i64]; omega
        have hcast : ((n - U : Nat) : Int) = (n : Int) - U := by omega
        clear hk hlt HPS HPW hUn
        go_wp2_with (first | (go_at_call 13; refine HPA2.out.mono ?_; rintro e w3 ⟨rfl, k3, g3⟩) | (go_at_call 14; refine (HRP.out _).mono ?_; rintro e w4 ⟨rfl, b4⟩) | (go_at_call 15; refine (HUS.out _ b (.inr (k3.below b4))).mono ?_; rintro e w5 ⟨rfl, rfl⟩) | (go_at_call 16; refine (HLF.out _ b (.inr (k3.below b4))).mono ?_; rintro e w6 ⟨rfl, rfl⟩))
        have B3 := B2.out.grown g3 B2.out.size (fun k hk => by cases hk; exact HBB.out)
        go_ret
        exact ⟨by first | rfl | simp [hcast], B3.trans (b4.mono B3.size)⟩
  · obtain ⟨K, hK5, hKh⟩ : ∃ K : Nat, K ≤ 5 ∧ ((h < 0 ∧ K = 0) ∨ (0 ≤ h ∧ h < 5 ∧ h = K) ∨ (5 ≤ h ∧ K = 5)) := by
      by_cases a : h < 0
      · exact ⟨0, by omega, .inl ⟨a, rfl⟩⟩
      · by_cases c : h < 5
        · exact ⟨h.toNat, by omega, .inr (.inl ⟨by omega, c, by omega⟩)⟩
        · exact ⟨5, by omega, .inr (.inr ⟨by omega, rfl⟩)⟩
    have hbad : h < 0 ∨ 4 < h ∨ u < 0 ∨ ((2 ^ h.toNat : Nat) : Int) < u := by omega
    have hbad2 : h < 0 ∨ 4 < h ∨ u < 0 ∨ (0 ≤ h ∧ h ≤ 4 ∧ ((2 ^ K : Nat) : Int) < u) := by
      rcases hKh with ⟨a, _⟩ | ⟨a, c, e⟩ | ⟨a, _⟩
      · exact .inl a
      · rw [e, Int.toNat_natCast] at hbad
        omega
      · exact .inr (.inl (by omega))
    have HNO := Lib.hid (fun W => new_no W s h u hbad)
    have h2a : ¬ (3 ≤ h) ∨ (3 ≤ h ∧ ¬ h ≤ 4) := by omega
    have HB2 := Lib.hid hbad2
    have HKH := Lib.hid hKh
    clear hbad hbad2 hv h2 hKh
    rcases h2a with h2a | ⟨h2a, h2b⟩
    all_goals
      go_enter Tryz.func3, Tryz.ntmps3
      go_wp2_with (first | (go_at_call 10; refine (long5 s _).mono ?_; rintro e w1 ⟨rfl, rfl⟩) | (go_at_call 11; refine (HAW.out _ (Below.refl _ _)).mono ?_; rintro e w1 ⟨rfl, b1⟩))
      refine (HNO.out _).mono ?_
      rintro e w2 ⟨rfl, rfl⟩
      have B1 := Lib.hid b1
      clear b1 HNO HAW
      go_wp2
      go_loopw [8, 9] (fun n i wr => ∃ k : Nat, k ≤ K ∧ i = .int .i64 k ∧ n = .int .i64 ((2 ^ k : Nat) : Int) ∧ wr = w1) (fun _ i _ => K - (intOf i).toNat)
      case atStart => exact ⟨0, by omega, rfl, rfl, rfl⟩
      case round =>
        obtain ⟨k, hk, rfl, rfl, rfl⟩ := hrel
        by_cases hlt : k < K
        · have hp := HPW.out k (by omega)
          have HE := Lib.hid (HPS.out k)
          have hk5 : k < 5 := by omega
          have hkh : (k : Int) < h := by have := HKH.out; omega
          generalize 2 ^ k = q at *
          have hw : IntKind.i64.wrap (2 * (q : Int)) = 2 * (q : Int) := by rw [IntKind.wrap_i64]; omega
          go_wp2
          go_roundw
          case rel => exact ⟨k + 1, by omega, by go_num, by rw [HE.out]; first | (congr 1; omega) | (congr 2; omega), by first | rfl | trivial⟩
          case measure => simp [intOf]; omega
        · obtain rfl : k = K := by omega
          have hend : ¬ (k : Int) < h ∨ ((k : Int) < h ∧ ¬ k < 5) := by have := HKH.out; omega
          have hb2 := HB2.out
          generalize 2 ^ k = n at *
          clear hk hlt HPS HPW HB2 HKH
          have hall : h < 0 ∨ (¬ h < 0 ∧ 4 < h) ∨ (¬ h < 0 ∧ ¬ 4 < h ∧ u < 0) ∨ (¬ h < 0 ∧ ¬ 4 < h ∧ ¬ u < 0 ∧ (n : Int) < u) := by omega
          clear hb2
          rcases hend with e1 | ⟨e1, e2⟩ <;> rcases hall with a1 | ⟨a1, a2⟩ | ⟨a1, a2, a3⟩ | ⟨a1, a2, a3, a4⟩
          all_goals
            first
            | (exfalso; omega)
            | (go_wp2; go_ret; exact ⟨rfl, B1.out⟩)
            | (go_wp2; done)

theorem own : ownKnob Tryz.prog.godebug = none := by kernel_rfl
theorem laidOut : laidOutB Tryz.prog = true := by kernel_rfl

set_option maxRecDepth 100000 in
theorem contract (H : Type) (enc : TypeId × Value → H) (W : World) (base : Nat) (args : Array Value) (ds gs : List (DataW H)) (before : List MemPlace)
    (hval : ∀ (j : Nat) t v, Tryz.f3.params[j]? = some t → args[j]? = some v → Value.okWide Tryz.prog W .any base t v)
    (hW : DataW.Whole enc Tryz.prog Tryz.f3.params.toList Rows.keyMakesSpec.vars false W args.toList ds gs before) (hL : laidMetH Tryz.prog Rows.keyMakesRow.laid W) :
    Calls Tryz.prog 3 args W fun e W' => ∃ v, e = .returned v ∧ Rows.keyMakesSpec.post enc Tryz.prog Tryz.f3 false true false false W args v W' := by
  have hW' := hW
  obtain ⟨p, q, hA0, hV, rfl, hfz, hnd⟩ := hW
  have hA : DataW.TrodAll enc Tryz.prog W 0 (fun _ => true) true Tryz.f3.params.toList args.toList ds p := hA0
  rw [Tryz.params3] at hA hval
  obtain ⟨v0, vs0, d0, ds0, p0, q0, hargs, rfl, rfl, h0, r0⟩ := trodAll_cons hA
  obtain ⟨v1, vs1, d1, ds1, p1, q1, rfl, rfl, rfl, h1, r1⟩ := trodAll_cons r0
  obtain ⟨v2, vs2, d2, ds2, p2, q2, rfl, rfl, rfl, h2, r2⟩ := trodAll_cons r1
  obtain ⟨rfl, rfl, rfl⟩ := trodAll_nil r2
  obtain rfl : args = #[v0, v1, v2] := by cases args; simp_all
  obtain ⟨rfl, rfl⟩ := trodVars_none hV
  obtain ⟨a0, rfl, rfl, rfl, w0⟩ := open_string Tryz.underlying9 (hval 0 9 v0 rfl rfl) h0
  obtain ⟨a1, rfl, rfl, rfl, w1⟩ := open_int Tryz.underlying3 (hval 1 3 v1 rfl rfl) h1
  obtain ⟨a2, rfl, rfl, rfl, w2⟩ := open_int Tryz.underlying3 (hval 2 3 v2 rfl rfl) h2
  clear hA0
  refine (walk a0 a1 a2 w0 w1 w2 W (tabs_of_laid hL)).mono fun e W' ⟨he, bel⟩ => ?_
  subst he
  exact ⟨_, rfl, _, _, _, [], [], [], hW', trodAll_mk1 (shut_bool Tryz.underlying4 _), (trodAll_cons_mk (shut_string Tryz.underlying9 w0) (trodAll_cons_mk (shut_int Tryz.underlying3 w1) (trodAll_cons_mk (shut_int Tryz.underlying3 w2) trodAll_mk0))), rfl, bel.frame _, fun h => by cases h⟩

theorem laid_met (os : Os) : laidMet Tryz.prog Rows.keyMakesRow.laid (({ World.holding Tryz.prog os ⟨#[], #[], []⟩ with heap := ((World.holding Tryz.prog os ⟨#[], #[], []⟩).heap.modify 0 fun | .cells _ t frozen => .cells #[.int .u32 1779033703, .int .u32 3144134277, .int .u32 1013904242, .int .u32 2773480762, .int .u32 1359893119, .int .u32 2600822924, .int .u32 528734635, .int .u32 1541459225] t frozen | o => o).modify 1 fun | .cells _ t frozen => .cells #[.int .u32 1116352408, .int .u32 1899447441, .int .u32 3049323471, .int .u32 3921009573, .int .u32 961987163, .int .u32 1508970993, .int .u32 2453635748, .int .u32 2870763221, .int .u32 3624381080, .int .u32 310598401, .int .u32 607225278, .int .u32 1426881987, .int .u32 1925078388, .int .u32 2162078206, .int .u32 2614888103, .int .u32 3248222580, .int .u32 3835390401, .int .u32 4022224774, .int .u32 264347078, .int .u32 604807628, .int .u32 770255983, .int .u32 1249150122, .int .u32 1555081692, .int .u32 1996064986, .int .u32 2554220882, .int .u32 2821834349, .int .u32 2952996808, .int .u32 3210313671, .int .u32 3336571891, .int .u32 3584528711, .int .u32 113926993, .int .u32 338241895, .int .u32 666307205, .int .u32 773529912, .int .u32 1294757372, .int .u32 1396182291, .int .u32 1695183700, .int .u32 1986661051, .int .u32 2177026350, .int .u32 2456956037, .int .u32 2730485921, .int .u32 2820302411, .int .u32 3259730800, .int .u32 3345764771, .int .u32 3516065817, .int .u32 3600352804, .int .u32 4094571909, .int .u32 275423344, .int .u32 430227734, .int .u32 506948616, .int .u32 659060556, .int .u32 883997877, .int .u32 958139571, .int .u32 1322822218, .int .u32 1537002063, .int .u32 1747873779, .int .u32 1955562222, .int .u32 2024104815, .int .u32 2227730452, .int .u32 2361852424, .int .u32 2428436474, .int .u32 2756734187, .int .u32 3204031479, .int .u32 3329325298] t frozen | o => o } : World).forCall (fun _ _ => 0) ⟨#[], #[.string ByteArray.empty, .int .i64 0, .int .i64 0], []⟩).memory :=
  laidMet_of_run' 8 (by kernel_rfl) (by kernel_rfl)
theorem reads (os : Os) {H : Type} (enc : TypeId × Value → H) : ∃ places, DataW.whole enc Tryz.prog (({ World.holding Tryz.prog os ⟨#[], #[], []⟩ with heap := ((World.holding Tryz.prog os ⟨#[], #[], []⟩).heap.modify 0 fun | .cells _ t frozen => .cells #[.int .u32 1779033703, .int .u32 3144134277, .int .u32 1013904242, .int .u32 2773480762, .int .u32 1359893119, .int .u32 2600822924, .int .u32 528734635, .int .u32 1541459225] t frozen | o => o).modify 1 fun | .cells _ t frozen => .cells #[.int .u32 1116352408, .int .u32 1899447441, .int .u32 3049323471, .int .u32 3921009573, .int .u32 961987163, .int .u32 1508970993, .int .u32 2453635748, .int .u32 2870763221, .int .u32 3624381080, .int .u32 310598401, .int .u32 607225278, .int .u32 1426881987, .int .u32 1925078388, .int .u32 2162078206, .int .u32 2614888103, .int .u32 3248222580, .int .u32 3835390401, .int .u32 4022224774, .int .u32 264347078, .int .u32 604807628, .int .u32 770255983, .int .u32 1249150122, .int .u32 1555081692, .int .u32 1996064986, .int .u32 2554220882, .int .u32 2821834349, .int .u32 2952996808, .int .u32 3210313671, .int .u32 3336571891, .int .u32 3584528711, .int .u32 113926993, .int .u32 338241895, .int .u32 666307205, .int .u32 773529912, .int .u32 1294757372, .int .u32 1396182291, .int .u32 1695183700, .int .u32 1986661051, .int .u32 2177026350, .int .u32 2456956037, .int .u32 2730485921, .int .u32 2820302411, .int .u32 3259730800, .int .u32 3345764771, .int .u32 3516065817, .int .u32 3600352804, .int .u32 4094571909, .int .u32 275423344, .int .u32 430227734, .int .u32 506948616, .int .u32 659060556, .int .u32 883997877, .int .u32 958139571, .int .u32 1322822218, .int .u32 1537002063, .int .u32 1747873779, .int .u32 1955562222, .int .u32 2024104815, .int .u32 2227730452, .int .u32 2361852424, .int .u32 2428436474, .int .u32 2756734187, .int .u32 3204031479, .int .u32 3329325298] t frozen | o => o } : World).forCall (fun _ _ => 0) ⟨#[], #[.string ByteArray.empty, .int .i64 0, .int .i64 0], []⟩).memory Tryz.f3.params.toList Rows.keyMakesSpec.vars false (#[.string ByteArray.empty, .int .i64 0, .int .i64 0] : Array Value).toList 8 = some ([.lit (.string []), .lit (.int .i64 0), .lit (.int .i64 0)], [], places) :=
  ⟨[], by kernel_rfl⟩

set_option maxRecDepth 100000 in
theorem lifted (os : Os) (started : os.Started) (H : Type) (enc : TypeId × Value → H) (F : Stop.Interp) :
    ReturnsInHanded {} Tryz.checked os 3 .any ((OpenSpec.ofChange Rows.keyMakesSpec).preRow enc Tryz.prog Tryz.f3 Rows.keyMakesRow.domain false Rows.keyMakesRow.laid) (((OpenSpec.ofChange Rows.keyMakesSpec).at F).post enc Tryz.prog Tryz.f3 false true false false) := by
  obtain ⟨places, hx⟩ := reads os enc
  refine returnsInHanded_of_row (C := Tryz.checked) (s := OpenSpec.ofChange Rows.keyMakesSpec) own started (by kernel_rfl) Tryz.func3
    (witness_row_at (enc := enc) (C := Tryz.checked) false ({ World.holding Tryz.prog os ⟨#[], #[], []⟩ with heap := ((World.holding Tryz.prog os ⟨#[], #[], []⟩).heap.modify 0 fun | .cells _ t frozen => .cells #[.int .u32 1779033703, .int .u32 3144134277, .int .u32 1013904242, .int .u32 2773480762, .int .u32 1359893119, .int .u32 2600822924, .int .u32 528734635, .int .u32 1541459225] t frozen | o => o).modify 1 fun | .cells _ t frozen => .cells #[.int .u32 1116352408, .int .u32 1899447441, .int .u32 3049323471, .int .u32 3921009573, .int .u32 961987163, .int .u32 1508970993, .int .u32 2453635748, .int .u32 2870763221, .int .u32 3624381080, .int .u32 310598401, .int .u32 607225278, .int .u32 1426881987, .int .u32 1925078388, .int .u32 2162078206, .int .u32 2614888103, .int .u32 3248222580, .int .u32 3835390401, .int .u32 4022224774, .int .u32 264347078, .int .u32 604807628, .int .u32 770255983, .int .u32 1249150122, .int .u32 1555081692, .int .u32 1996064986, .int .u32 2554220882, .int .u32 2821834349, .int .u32 2952996808, .int .u32 3210313671, .int .u32 3336571891, .int .u32 3584528711, .int .u32 113926993, .int .u32 338241895, .int .u32 666307205, .int .u32 773529912, .int .u32 1294757372, .int .u32 1396182291, .int .u32 1695183700, .int .u32 1986661051, .int .u32 2177026350, .int .u32 2456956037, .int .u32 2730485921, .int .u32 2820302411, .int .u32 3259730800, .int .u32 3345764771, .int .u32 3516065817, .int .u32 3600352804, .int .u32 4094571909, .int .u32 275423344, .int .u32 430227734, .int .u32 506948616, .int .u32 659060556, .int .u32 883997877, .int .u32 958139571, .int .u32 1322822218, .int .u32 1537002063, .int .u32 1747873779, .int .u32 1955562222, .int .u32 2024104815, .int .u32 2227730452, .int .u32 2361852424, .int .u32 2428436474, .int .u32 2756734187, .int .u32 3204031479, .int .u32 3329325298] t frozen | o => o } : World) #[.string ByteArray.empty, .int .i64 0, .int .i64 0] rfl (by kernel_rfl) (by kernel_rfl) (by kernel_rfl)
      (OpenSpec.preRow_of_cond 8 hx (by kernel_rfl) (fun k hk => by cases hk) (by kernel_rfl) (laid_met os))) ?_
  intro W base args ds gs before hval hW _ _ _ hL _ _
  exact contract H enc W base args ds gs before hval hW hL

theorem said : Rows.KeyMakesSaid :=
  OpenClaim.holds_of_cond 3 Tryz.f3 rfl rfl rfl rfl rfl rfl rfl ⟨rfl, rfl, rfl, rfl, rfl⟩ rfl rfl rfl rfl rfl (by kernel_rfl) Tryz.func3 (by kernel_rfl)
    (of_decide_eq_true (by kernel_rfl)) (by unfold Func.isWrapper; first | (rw [if_pos (by decide +kernel)]; kernel_rfl) | (rw [if_neg (by decide +kernel)]; exact ⟨rfl, rfl⟩))
    (fun os started H enc _ F => by rw [OpenClaim.pre_eq_preRow]; exact lifted os started H enc F)

theorem plain (f : FuncId) (fn : Func) (hf : Tryz.pinned.checked.prog.funcNamed Rows.keyMakesRow.func = some f) (hfn : Tryz.pinned.checked.prog.funcs[f]? = some fn) :
    false = Tryz.pinned.checked.prog.looks [] ∧ ∀ (j : Nat) t, fn.params[j]? = some t → Tryz.pinned.checked.prog.wantsStandIn t = false := by
  obtain rfl : f = 3 := Option.some.inj ((show Tryz.prog.funcNamed Rows.keyMakesRow.func = some 3 by kernel_rfl).symm.trans hf) |>.symm
  obtain rfl : fn = Tryz.f3 := (Option.some.inj (Tryz.func3.symm.trans hfn)).symm
  refine ⟨by kernel_rfl, fun j t ht => ?_⟩
  rw [Tryz.params3] at ht
  have hm : t = 9 ∨ t = 3 := by first | simpa using Array.mem_of_getElem? ht | (have h := Array.mem_of_getElem? ht; simp only [List.mem_toArray, List.mem_cons, List.not_mem_nil, or_false] at h; rcases h with rfl | rfl | rfl <;> simp)
  rcases hm with rfl | rfl
  · exact (show Tryz.prog.wantsStandIn 9 = false by kernel_rfl)
  · exact (show Tryz.prog.wantsStandIn 3 = false by kernel_rfl)

theorem card : Rows.KeyMakesCardSaid :=
  Claim7.holds_tied_plain_at .later [] _ _ _ _ said (fun _ h => by cases h) (by kernel_rfl) (fun _ h => by cases h) keyMakes_row_tie rfl ⟨rfl, rfl⟩ (by kernel_rfl) rfl plain (by kernel_rfl)

end Go.Proofs.YtanplccigmihfaaGreatDoor.KeyMakes
namespace Go.Proofs.YtanplccigmihfaaGreatDoor
theorem keyMakes_card : Rows.KeyMakesCardSaid := KeyMakes.card
#print axioms keyMakes_card
end Go.Proofs.YtanplccigmihfaaGreatDoor

