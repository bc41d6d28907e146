/-
  P1.2: of any bytes whatever is read, one behind the other: what is told, what is left, and whether it is bad: for every text and every list of asks.
  No condition beside the form's own.
-/
import Derived.Test.YtpdfgjmmlekbjaaRdS
import Derived.ProofKit
import Derived.OpenShut
import Derived.ShutString
import Derived.ChangeOld
import Derived.SizedLaws
import Derived.Deep.SlicePairs
namespace Go.Proofs.Ytpdfgjmmlekbjaa.OctetsReads
open Go.ChangeShapes Go.WideShapes Go.ChangeAt Go.RowKit Go.Pal
open Go.ChangeMaps (open_string shut_string)
set_option linter.unusedVariables false

/-- A list of asks that came in. -/
def IsAsks (w : World) (a : Option Addr) (len : Nat) (ks ns : Nat → Int) : Prop :=
  len = 0 ∨ ∃ b off, a = some ⟨b, off, none⟩ ∧ len ≤ maxLen ∧ b < w.heap.size ∧
    ∀ i, i < len → w.cell? ⟨b, off + i * 2, none⟩ = some (.int .i64 (ks i)) ∧ w.cell? ⟨b, off + i * 2 + 1, none⟩ = some (.int .i64 (ns i))

set_option maxHeartbeats 400000 in
theorem walk_long (s : ByteArray) (a : Option Addr) (len cap : Nat) (h : 200 < len) (hm : len ≤ maxLen) (w : World) :
    Calls Try.prog 5 #[.string s, .slice a len cap] w fun e w' => e = .returned (.bool true) ∧ Below w.heap.size w w' := by
  have hl : decide (200 < (len : Int)) = true := by simp; omega
  go_enter Try.func5, Try.ntmps5
  go_wp2_with fail
  refine (awake_any _).mono ?_
  rintro e w1 ⟨rfl, b1⟩
  go_wp2
  go_ret
  exact ⟨rfl, b1⟩

set_option maxHeartbeats 1000000 in
set_option maxRecDepth 100000 in
theorem walk_short (s : ByteArray) (hs : s.size ≤ 140737488351232) (a : Option Addr) (len cap : Nat) (ks ns : Nat → Int) (w : World) (h : ¬ 200 < len) (ha : IsAsks w a len ks ns) :
    Calls Try.prog 5 #[.string s, .slice a len cap] w fun e w' => e = .returned (.bool true) ∧ Below w.heap.size w w' := by
  have hl : decide (200 < (len : Int)) = false := by simp; omega
  go_enter Try.func5, Try.ntmps5
  go_wp2_with fail
  refine (awake_any _).mono ?_
  rintro e w1 ⟨rfl, b1⟩
  go_wp2_with fail
  refine (read_any _ _).mono ?_
  rintro e w2 ⟨rfl, rfl⟩
  have hrd : RdS (w1.alloc (.cells #[.string s, .bool false] 48)) w1.heap.size s false := ⟨s, rd_new s w1, by omega, fun _ => rfl⟩
  have hbel := b1.alloc b1.size (.cells #[.string s, .bool false] 48)
  have hsz := b1.size
  generalize hB : w1.heap.size = B at *
  generalize w1.alloc (.cells #[.string s, .bool false] 48) = w2 at *
  clear hB b1 
  go_wp2
  go_loopw [0, 6, 7] (fun u v i wr => ∃ k : Nat, ∃ sv bv, k ≤ len ∧ i = .int .i64 k ∧ u = .string sv ∧ v = .bool bv ∧ sv.size ≤ 140737488351232 ∧ RdS wr B sv bv ∧ Below w.heap.size w wr) (fun _ _ i _ => len - (intOf i).toNat)
  case atStart => exact ⟨0, s, false, Nat.zero_le _, rfl, rfl, rfl, hs, hrd, hbel⟩
  case round =>
    clear hrd hbel hs
    obtain ⟨k, sv, bv, hk, rfl, rfl, rfl, hs, hrd, hbel⟩ := hrel
    by_cases hlt : k < len
    · rcases ha with h0 | ⟨b, off, rfl, hmx, hb, hc⟩
      · omega
      obtain ⟨c0, c1⟩ := hc k hlt
      have d0 := (hbel.cell (p := ⟨b, off + k * 2, none⟩) hb).trans c0
      have d1 := (hbel.cell (p := ⟨b, off + k * 2 + 1, none⟩) hb).trans c1
      clear hc c0 c1
      generalize ks k = K at *
      generalize ns k = N at *
      by_cases h0 : K = 0
      · have t0 : (K == 0) = true := by simpa using h0
        clear h0
        go_wp2_with fail
        refine (byteS _ _ _ _ hrd).mono ?_
        rintro e w3 ⟨rfl, r1, g1⟩
        go_wp2_with fail
        refine (lread_any 1 sv bv _).mono ?_
        rintro e w4 ⟨rfl, b4⟩
        go_wp2_with fail
        refine (value_any _ (Nat.le_trans (rdOut_le (k := 1) sv bv) (by omega)) _).mono ?_
        rintro e w4 ⟨rfl, rfl⟩
        have f2 := hbel.grown g1 hbel.size (by intro j hj; cases hj; exact hsz)
        have f3 := f2.trans (b4.mono f2.size)
        have r3 := r1.below b4
        have hs1 := refRest_le 1 sv bv
        clear d0 d1 f2 r1 g1 b4 hbel hrd
        generalize rdOut 1 sv bv = o at *
        generalize refRest 1 sv bv = s1 at *
        generalize (!rdOk 1 sv bv) = b1 at *
        cases b1 with
        | true =>
          go_wp2_with fail
          refine (goodS _ _ _ _ r3).mono ?_
          rintro e w5 ⟨rfl, rfl⟩
          go_wp2_with fail
          refine (leftS_bad _ _ _ r3).mono ?_
          rintro e w6 ⟨rfl, rfl⟩
          go_wp2_with fail
          refine (endS_bad _ _ _ r3).mono ?_
          rintro e w7 ⟨rfl, rfl⟩
          go_wp2
          go_roundw
          case rel => exact ⟨k + 1, s1, true, by omega, by go_num, rfl, rfl, Nat.le_trans hs1 hs, r3, f3⟩
          case measure => simp [intOf]; omega
        | false =>
          go_wp2_with fail
          refine (goodS _ _ _ _ r3).mono ?_
          rintro e w5 ⟨rfl, rfl⟩
          go_wp2_with fail
          refine (leftS _ _ _ r3).mono ?_
          rintro e w6 ⟨rfl, rfl⟩
          go_wp2_with fail
          refine (endS _ _ _ r3).mono ?_
          rintro e w7 ⟨rfl, rfl⟩
          go_wp2
          go_roundw
          case rel => exact ⟨k + 1, s1, false, by omega, by go_num, rfl, rfl, Nat.le_trans hs1 hs, r3, f3⟩
          case measure => simp [intOf]; omega

      have t0 : (K == 0) = false := by simpa using h0
      clear h0
      by_cases h1 : K = 1
      · have t1 : (K == 1) = true := by simpa using h1
        clear h1
        go_wp2_with fail
        refine (shortS _ _ _ _ hrd).mono ?_
        rintro e w3 ⟨rfl, r1, g1⟩
        go_wp2_with fail
        refine (lread_any 2 sv bv _).mono ?_
        rintro e w4 ⟨rfl, b4⟩
        go_wp2_with fail
        refine (value_any _ (Nat.le_trans (rdOut_le (k := 2) sv bv) (by omega)) _).mono ?_
        rintro e w4 ⟨rfl, rfl⟩
        have f2 := hbel.grown g1 hbel.size (by intro j hj; cases hj; exact hsz)
        have f3 := f2.trans (b4.mono f2.size)
        have r3 := r1.below b4
        have hs1 := refRest_le 2 sv bv
        clear d0 d1 f2 r1 g1 b4 hbel hrd
        generalize rdOut 2 sv bv = o at *
        generalize refRest 2 sv bv = s1 at *
        generalize (!rdOk 2 sv bv) = b1 at *
        cases b1 with
        | true =>
          go_wp2_with fail
          refine (goodS _ _ _ _ r3).mono ?_
          rintro e w5 ⟨rfl, rfl⟩
          go_wp2_with fail
          refine (leftS_bad _ _ _ r3).mono ?_
          rintro e w6 ⟨rfl, rfl⟩
          go_wp2_with fail
          refine (endS_bad _ _ _ r3).mono ?_
          rintro e w7 ⟨rfl, rfl⟩
          go_wp2
          go_roundw
          case rel => exact ⟨k + 1, s1, true, by omega, by go_num, rfl, rfl, Nat.le_trans hs1 hs, r3, f3⟩
          case measure => simp [intOf]; omega
        | false =>
          go_wp2_with fail
          refine (goodS _ _ _ _ r3).mono ?_
          rintro e w5 ⟨rfl, rfl⟩
          go_wp2_with fail
          refine (leftS _ _ _ r3).mono ?_
          rintro e w6 ⟨rfl, rfl⟩
          go_wp2_with fail
          refine (endS _ _ _ r3).mono ?_
          rintro e w7 ⟨rfl, rfl⟩
          go_wp2
          go_roundw
          case rel => exact ⟨k + 1, s1, false, by omega, by go_num, rfl, rfl, Nat.le_trans hs1 hs, r3, f3⟩
          case measure => simp [intOf]; omega

      have t1 : (K == 1) = false := by simpa using h1
      clear h1
      by_cases h2 : K = 2
      · have t2 : (K == 2) = true := by simpa using h2
        clear h2
        go_wp2_with fail
        refine (longS _ _ _ _ hrd).mono ?_
        rintro e w3 ⟨rfl, r1, g1⟩
        go_wp2_with fail
        refine (lread_any 4 sv bv _).mono ?_
        rintro e w4 ⟨rfl, b4⟩
        go_wp2_with fail
        refine (value_any _ (Nat.le_trans (rdOut_le (k := 4) sv bv) (by omega)) _).mono ?_
        rintro e w4 ⟨rfl, rfl⟩
        have f2 := hbel.grown g1 hbel.size (by intro j hj; cases hj; exact hsz)
        have f3 := f2.trans (b4.mono f2.size)
        have r3 := r1.below b4
        have hs1 := refRest_le 4 sv bv
        clear d0 d1 f2 r1 g1 b4 hbel hrd
        generalize rdOut 4 sv bv = o at *
        generalize refRest 4 sv bv = s1 at *
        generalize (!rdOk 4 sv bv) = b1 at *
        cases b1 with
        | true =>
          go_wp2_with fail
          refine (goodS _ _ _ _ r3).mono ?_
          rintro e w5 ⟨rfl, rfl⟩
          go_wp2_with fail
          refine (leftS_bad _ _ _ r3).mono ?_
          rintro e w6 ⟨rfl, rfl⟩
          go_wp2_with fail
          refine (endS_bad _ _ _ r3).mono ?_
          rintro e w7 ⟨rfl, rfl⟩
          go_wp2
          go_roundw
          case rel => exact ⟨k + 1, s1, true, by omega, by go_num, rfl, rfl, Nat.le_trans hs1 hs, r3, f3⟩
          case measure => simp [intOf]; omega
        | false =>
          go_wp2_with fail
          refine (goodS _ _ _ _ r3).mono ?_
          rintro e w5 ⟨rfl, rfl⟩
          go_wp2_with fail
          refine (leftS _ _ _ r3).mono ?_
          rintro e w6 ⟨rfl, rfl⟩
          go_wp2_with fail
          refine (endS _ _ _ r3).mono ?_
          rintro e w7 ⟨rfl, rfl⟩
          go_wp2
          go_roundw
          case rel => exact ⟨k + 1, s1, false, by omega, by go_num, rfl, rfl, Nat.le_trans hs1 hs, r3, f3⟩
          case measure => simp [intOf]; omega

      have t2 : (K == 2) = false := by simpa using h2
      clear h2
      by_cases h3 : K = 3
      · have t3 : (K == 3) = true := by simpa using h3
        clear h3
        have ht := textS _ _ _ _ hrd
        unfold rdLen at ht
        have HT := Lib.hid ht
        clear ht
        go_wp2_with fail
        refine HT.out.mono ?_
        rintro e w3 ⟨rfl, r1, g1⟩
        go_wp2_with fail
        refine (lread_any 2 sv bv _).mono ?_
        rintro e w4 ⟨rfl, b4⟩
        go_wp2_with fail
        refine (value_any _ (Nat.le_trans (rdOut_le (k := 2) sv bv) (by omega)) _).mono ?_
        rintro e w4 ⟨rfl, rfl⟩
        go_wp2_with fail
        refine (lread_any (valL (rdOut 2 sv bv).data.toList : Nat) (refRest 2 sv bv) (!rdOk 2 sv bv) _).mono ?_
        rintro e w5 ⟨rfl, b5⟩
        have f2 := hbel.grown g1 hbel.size (by intro j hj; cases hj; exact hsz)
        have f4 := f2.trans (b4.mono f2.size)
        have f3 := f4.trans (b5.mono f4.size)
        have r3 := (r1.below b4).below b5
        have hs1 := Nat.le_trans (refRest_le (valL (rdOut 2 sv bv).data.toList : Nat) (refRest 2 sv bv) (!rdOk 2 sv bv)) (refRest_le 2 sv bv)
        clear d0 d1 f2 f4 r1 g1 b4 b5 hbel hrd HT
        generalize rdOut (valL (rdOut 2 sv bv).data.toList : Nat) (refRest 2 sv bv) (!rdOk 2 sv bv) = o at *
        generalize refRest (valL (rdOut 2 sv bv).data.toList : Nat) (refRest 2 sv bv) (!rdOk 2 sv bv) = s1 at *
        generalize (!rdOk (valL (rdOut 2 sv bv).data.toList : Nat) (refRest 2 sv bv) (!rdOk 2 sv bv)) = b1 at *
        cases b1 with
        | true =>
          go_wp2_with fail
          refine (goodS _ _ _ _ r3).mono ?_
          rintro e w5 ⟨rfl, rfl⟩
          go_wp2_with fail
          refine (leftS_bad _ _ _ r3).mono ?_
          rintro e w6 ⟨rfl, rfl⟩
          go_wp2_with fail
          refine (endS_bad _ _ _ r3).mono ?_
          rintro e w7 ⟨rfl, rfl⟩
          go_wp2
          go_roundw
          case rel => exact ⟨k + 1, s1, true, by omega, by go_num, rfl, rfl, Nat.le_trans hs1 hs, r3, f3⟩
          case measure => simp [intOf]; omega
        | false =>
          go_wp2_with fail
          refine (goodS _ _ _ _ r3).mono ?_
          rintro e w5 ⟨rfl, rfl⟩
          go_wp2_with fail
          refine (leftS _ _ _ r3).mono ?_
          rintro e w6 ⟨rfl, rfl⟩
          go_wp2_with fail
          refine (endS _ _ _ r3).mono ?_
          rintro e w7 ⟨rfl, rfl⟩
          go_wp2
          go_roundw
          case rel => exact ⟨k + 1, s1, false, by omega, by go_num, rfl, rfl, Nat.le_trans hs1 hs, r3, f3⟩
          case measure => simp [intOf]; omega

      have t3 : (K == 3) = false := by simpa using h3
      clear h3
      · go_wp2_with fail
        refine (takeS N _ _ _ _ hrd).mono ?_
        rintro e w3 ⟨rfl, r1, g1⟩
        have d2 := (World.grownBy.cell g1 d1 (by simp; omega))
        go_wp2_with fail
        refine (lread_any N sv bv _).mono ?_
        rintro e w4 ⟨rfl, b4⟩
        have f2 := hbel.grown g1 hbel.size (by intro j hj; cases hj; exact hsz)
        have f3 := f2.trans (b4.mono f2.size)
        have r3 := r1.below b4
        have hs1 := refRest_le N sv bv
        clear d0 d1 d2 f2 r1 g1 b4 hbel hrd
        generalize rdOut N sv bv = o at *
        generalize refRest N sv bv = s1 at *
        generalize (!rdOk N sv bv) = b1 at *
        cases b1 with
        | true =>
          go_wp2_with fail
          refine (goodS _ _ _ _ r3).mono ?_
          rintro e w5 ⟨rfl, rfl⟩
          go_wp2_with fail
          refine (leftS_bad _ _ _ r3).mono ?_
          rintro e w6 ⟨rfl, rfl⟩
          go_wp2_with fail
          refine (endS_bad _ _ _ r3).mono ?_
          rintro e w7 ⟨rfl, rfl⟩
          go_wp2
          go_roundw
          case rel => exact ⟨k + 1, s1, true, by omega, by go_num, rfl, rfl, Nat.le_trans hs1 hs, r3, f3⟩
          case measure => simp [intOf]; omega
        | false =>
          go_wp2_with fail
          refine (goodS _ _ _ _ r3).mono ?_
          rintro e w5 ⟨rfl, rfl⟩
          go_wp2_with fail
          refine (leftS _ _ _ r3).mono ?_
          rintro e w6 ⟨rfl, rfl⟩
          go_wp2_with fail
          refine (endS _ _ _ r3).mono ?_
          rintro e w7 ⟨rfl, rfl⟩
          go_wp2
          go_roundw
          case rel => exact ⟨k + 1, s1, false, by omega, by go_num, rfl, rfl, Nat.le_trans hs1 hs, r3, f3⟩
          case measure => simp [intOf]; omega
    · go_wp2
      go_ret
      exact ⟨rfl, hbel⟩

end Go.Proofs.Ytpdfgjmmlekbjaa.OctetsReads
