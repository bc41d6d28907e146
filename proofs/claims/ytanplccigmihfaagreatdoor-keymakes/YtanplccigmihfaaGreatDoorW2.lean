/-
  Contracts of wots.Chain, wots.Secret and of the document's Step, Chain, Secret.
-/
import Derived.Test.YtanplccigmihfaaGreatDoorRefIn
import Derived.Test.YtanplccigmihfaaGreatDoorClone
import Derived.Test.YtanplccigmihfaaGreatDoorW1
namespace Go.Pal
open Go.RowKit
/-- A step on a chain. -/
def stepB (k : Int) (x : ByteArray) : ByteArray := shaB ⟨(inputL 1 [be 1 (k % 256).toNat, x]).toArray⟩
def chainB (k : Int) (x : ByteArray) : Nat → ByteArray
  | 0 => x
  | n + 1 => stepB k (chainB k x n)
/-- How many steps are gone. -/
def stepsN (n : Int) : Nat := (if n ≤ 1000 then n else 1000).toNat
def secretB (seed : ByteArray) (leaf k : Int) : ByteArray := shaB ⟨(inputL 2 [seed, be 2 leaf.toNat, be 1 k.toNat]).toArray⟩
theorem shaB_size' (s : ByteArray) : (shaB s).size = 32 := by
  show (shaL s.data.toList).toArray.size = 32
  rw [List.size_toArray, shaL_length]
theorem chainB_size (k : Int) (x : ByteArray) (hx : x.size ≤ 1000000) : ∀ n, (chainB k x n).size ≤ 1000000
  | 0 => hx
  | n + 1 => by rw [chainB, stepB, shaB_size']; omega
theorem strs3 (w : World) (t : TypeId) (x y z : ByteArray) : StrRow (w.alloc (.cells #[.string x, .string y, .string z] t)) (some ⟨w.heap.size, 0, none⟩) [x, y, z] := by
  refine .inr ⟨w.heap.size, 0, rfl, by simp, fun i hi => ?_⟩
  rw [World.cell?_alloc_mark]
  match i, hi with
  | 0, _ => rfl
  | 1, _ => rfl
  | 2, _ => rfl
end Go.Pal
namespace Go.Proofs.YtanplccigmihfaaGreatDoor
open Go.RowKit Go.Pal

set_option maxHeartbeats 1000000 in
theorem chain_any (w : World) (k n : Int) (x : ByteArray) (hx : x.size ≤ 1000000) (ht : Tabs w) :
    Calls Tryz.prog 102 #[.int .i64 k, .string x, .int .i64 n] w fun e w' => e = .returned (.string (chainB k x (stepsN n))) ∧ Below w.heap.size w w' := by
  have ha := and255 k
  have hk := numOk_yes (k := 1) (n := k % 256) (by omega) (by simp; omega)
  have hB := numB_yes hk
  have hby := byte_any (k % 256) (by omega)
  rw [hB, hk] at hby
  have HBY := Lib.hid hby
  have HT := Lib.hid ht
  have HZ := Lib.hid (chainB_size k x hx)
  have hq := be_size 1 (k % 256).toNat
  have hstep : ∀ j, chainB k x (j + 1) = shaB ⟨(inputL 1 [be 1 (k % 256).toNat, chainB k x j]).toArray⟩ := fun j => rfl
  generalize be 1 (k % 256).toNat = B at *
  have HSTEP := Lib.hid hstep
  have HQ := Lib.hid hq
  clear hby hB hk ht hstep hq
  have hM : ∃ M, M = stepsN n := ⟨_, rfl⟩
  obtain ⟨M, hM⟩ := hM
  rw [← hM]
  by_cases hn : n ≤ 1000
  · have hMn : M = n.toNat := by rw [hM, stepsN, if_pos hn]
    clear hM
    have hle : M ≤ 1000 := by omega
    go_enter Tryz.func102, Tryz.ntmps102
    go_wp2_with fail
    refine (HBY.out _).mono ?_
    rintro e w1 ⟨rfl, b1⟩
    go_wp2_with fail
    refine (clone_any x _ (by omega)).mono ?_
    rintro e w2 ⟨rfl, b2⟩
    have B2 := Lib.hid (b1.trans (b2.mono b1.size))
    clear b1 b2 HBY ha
    have HMN := Lib.hid hMn
    clear hMn
    go_wp2
    go_loopw [9, 20] (fun v i wr => ∃ j : Nat, j ≤ M ∧ i = .int .i64 j ∧ v = .string (chainB k x j) ∧ Below w.heap.size w wr) (fun _ i _ => M - (intOf i).toNat)
    case atStart => exact ⟨0, by omega, rfl, rfl, B2.out⟩
    case round =>
      clear B2
      obtain ⟨j, hj, rfl, rfl, hb⟩ := hrel
      have hmn := HMN.out
      by_cases hlt : j < M
      · have hd : (j : Int) < n := by omega
        have hst := HSTEP.out j
        have hz := HZ.out j
        generalize chainB k x j = X at *
        generalize hX2 : chainB k x (j + 1) = X2 at *
        have HX2 := Lib.hid hX2
        have HST := Lib.hid hst
        have HB := Lib.hid hb
        have htot : totL [B, X] ≤ 2147483647 := by have := HQ.out; simp [totL]; omega
        have HTG := Lib.hid (fun W a c hT h => tag_any W 1 a c [B, X] hT h htot (by simp))
        clear hX2 hst hb htot hmn
        go_wp2_with fail
        have c3 := HB.out.alloc HB.out.size (.cells #[.string B, .string X] 9)
        refine (HTG.out _ _ _ (HT.out.below c3) (strs2 _ _ _)).mono ?_
        rintro e w4 ⟨rfl, b4⟩
        have C4 := Lib.hid (c3.trans (b4.mono c3.size))
        clear b4 c3
        rw [← HST.out]
        go_wp2
        go_roundw
        case rel => exact ⟨j + 1, by omega, by go_num, by rw [HX2.out], C4.out⟩
        case measure => simp [intOf]; omega
      · obtain rfl : j = M := by omega
        have hd : ¬ (j : Int) < n := by omega
        have HB := Lib.hid hb
        clear hb hmn
        go_wp2
        go_ret
        exact ⟨rfl, HB.out⟩
  · have hMn : M = 1000 := by rw [hM, stepsN, if_neg hn]; rfl
    clear hM
    have hn2 : 1000 < n := by omega
    have HMN := Lib.hid hMn
    clear hMn hn
    go_enter Tryz.func102, Tryz.ntmps102
    go_wp2_with fail
    refine (HBY.out _).mono ?_
    rintro e w1 ⟨rfl, b1⟩
    go_wp2_with fail
    refine (clone_any x _ (by omega)).mono ?_
    rintro e w2 ⟨rfl, b2⟩
    have B2 := Lib.hid (b1.trans (b2.mono b1.size))
    clear b1 b2 HBY ha
    go_wp2
    go_loopw [9, 20] (fun v i wr => ∃ j : Nat, j ≤ M ∧ i = .int .i64 j ∧ v = .string (chainB k x j) ∧ Below w.heap.size w wr) (fun _ i _ => M - (intOf i).toNat)
    case atStart => exact ⟨0, by omega, rfl, rfl, B2.out⟩
    case round =>
      clear B2
      obtain ⟨j, hj, rfl, rfl, hb⟩ := hrel
      have hmn := HMN.out
      by_cases hlt : j < M
      · have hd : j < 1000 := by omega
        have hst := HSTEP.out j
        have hz := HZ.out j
        generalize chainB k x j = X at *
        generalize hX2 : chainB k x (j + 1) = X2 at *
        have HX2 := Lib.hid hX2
        have HST := Lib.hid hst
        have HB := Lib.hid hb
        have htot : totL [B, X] ≤ 2147483647 := by have := HQ.out; simp [totL]; omega
        have HTG := Lib.hid (fun W a c hT h => tag_any W 1 a c [B, X] hT h htot (by simp))
        clear hX2 hst hb htot hmn
        go_wp2_with fail
        have c3 := HB.out.alloc HB.out.size (.cells #[.string B, .string X] 9)
        refine (HTG.out _ _ _ (HT.out.below c3) (strs2 _ _ _)).mono ?_
        rintro e w4 ⟨rfl, b4⟩
        have C4 := Lib.hid (c3.trans (b4.mono c3.size))
        clear b4 c3
        rw [← HST.out]
        go_wp2
        go_roundw
        case rel => exact ⟨j + 1, by omega, by go_num, by rw [HX2.out], C4.out⟩
        case measure => simp [intOf]; omega
      · obtain rfl : j = M := by omega
        have hd : ¬ j < 1000 := by omega
        have HB := Lib.hid hb
        clear hb hmn
        go_wp2
        go_ret
        exact ⟨rfl, HB.out⟩

theorem mod256 (k : Int) : (wrap64 (k.tmod 256 + 256)).tmod 256 = k % 256 := by
  have h := tag_byte k
  have h1 := Int.tmod_lt_of_pos k (show (0 : Int) < 256 by omega)
  have h2 := Int.lt_tmod_of_pos k (show (0 : Int) < 256 by omega)
  have e : wrap64 (k.tmod 256 + 256) = k.tmod 256 + 256 := IntWalk.wrap64_in _ (by omega)
  rw [e] at h ⊢
  have h3 : 0 ≤ (k.tmod 256 + 256).tmod 256 := by rw [Int.tmod_eq_emod_of_nonneg (by omega)]; omega
  have h4 := Int.tmod_lt_of_pos (k.tmod 256 + 256) (show (0 : Int) < 256 by omega)
  omega

set_option maxHeartbeats 400000 in
theorem refstep_any (w : World) (k : Int) (x : ByteArray) (hx : x.size ≤ 1000000) :
    Calls Tryz.prog 86 #[.int .i64 k, .string x] w fun e w' => e = .returned (.string (stepB k x)) ∧ Below w.heap.size w w' := by
  have hk := numOk_yes (k := 1) (n := k % 256) (by omega) (by simp; omega)
  have hB := numB_yes hk
  have hby := number1_any (k % 256)
  rw [hB, hk] at hby
  have HBY := Lib.hid hby
  have hq := be_size 1 (k % 256).toNat
  have hstep : stepB k x = shaB ⟨(inputL 1 [be 1 (k % 256).toNat, x]).toArray⟩ := rfl
  generalize be 1 (k % 256).toNat = B at *
  have HSTEP := Lib.hid hstep
  have htot : totL [B, x] ≤ 9000000 := by simp [totL]; omega
  have HTG := Lib.hid (fun W a c h => reftag_any W 1 a c [B, x] h htot (by simp))
  have HM := Lib.hid (mod256 k)
  clear hby hB hk hstep hq htot
  go_enter Tryz.func86, Tryz.ntmps86
  go_wp2_with fail
  rw [HM.out]
  refine (HBY.out _).mono ?_
  rintro e w1 ⟨rfl, b1⟩
  have HB := Lib.hid b1
  clear b1
  go_wp2_with fail
  have c3 := HB.out.alloc HB.out.size (.cells #[.string B, .string x] 9)
  refine (HTG.out _ _ _ (strs2 _ _ _)).mono ?_
  rintro e w4 ⟨rfl, b4⟩
  have C4 := Lib.hid (c3.trans (b4.mono c3.size))
  clear b4 c3
  rw [← HSTEP.out]
  go_wp2
  go_ret
  exact ⟨rfl, C4.out⟩

set_option maxHeartbeats 1000000 in
set_option maxRecDepth 100000 in
theorem refchain_any (w : World) (k n : Int) (x : ByteArray) (hx : x.size ≤ 1000000) :
    Calls Tryz.prog 84 #[.int .i64 k, .string x, .int .i64 n] w fun e w' => e = .returned (.string (chainB k x (stepsN n))) ∧ Below w.heap.size w w' := by
  have HZ := Lib.hid (chainB_size k x hx)
  have hstep : ∀ j, chainB k x (j + 1) = stepB k (chainB k x j) := fun j => rfl
  have HSTEP := Lib.hid hstep
  have h0 : chainB k x 0 = x := rfl
  obtain ⟨C, hC⟩ : ∃ C, C = chainB k x := ⟨_, rfl⟩
  rw [← hC] at HZ HSTEP h0 ⊢
  have H0 := Lib.hid h0
  have hM : ∃ M, M = stepsN n := ⟨_, rfl⟩
  obtain ⟨M, hM⟩ := hM
  have hle : (n ≤ 1000 ∧ M = n.toNat) ∨ (1000 < n ∧ M = 1000) := by
    by_cases hn : n ≤ 1000
    · left; exact ⟨hn, by rw [hM, stepsN, if_pos hn]⟩
    · right; exact ⟨by omega, by rw [hM, stepsN, if_neg hn]; rfl⟩
  rw [← hM]
  have HLE := Lib.hid hle
  clear hstep hx hM hle hC h0
  go_enter Tryz.func84, Tryz.ntmps84
  go_wp2
  go_loopw [1, 7] (fun v i wr => ∃ j : Nat, j ≤ M ∧ j ≤ 1000 ∧ i = .int .i64 j ∧ v = .string (C j) ∧ Below w.heap.size w wr) (fun _ i _ => M - (intOf i).toNat)
  case atStart => exact ⟨0, by omega, by omega, rfl, by rw [H0.out], Below.refl _ _⟩
  case round =>
    obtain ⟨j, hj, hj2, rfl, rfl, hb⟩ := hrel
    have hle := HLE.out
    by_cases hlt : j < M
    · have hd : decide ((j : Int) < n) = true := by simp; omega
      have hd2 : j < 1000 := by omega
      have hst := HSTEP.out j
      have hz := HZ.out j
      generalize C j = X at *
      generalize hX2 : C (j + 1) = X2 at *
      have HX2 := Lib.hid hX2
      have HST := Lib.hid hst
      have HB := Lib.hid hb
      have HRS := Lib.hid (refstep_any wr k X hz)
      clear hX2 hst hb hle
      go_wp2_with fail
      refine HRS.out.mono ?_
      rintro e w4 ⟨rfl, b4⟩
      have C4 := Lib.hid (HB.out.trans (b4.mono HB.out.size))
      clear b4
      rw [← HST.out]
      go_wp2
      go_roundw
      case rel => exact ⟨j + 1, by omega, by omega, by go_num, by rw [HX2.out], C4.out⟩
      case measure => simp [intOf]; omega
    · obtain rfl : j = M := by omega
      have HB := Lib.hid hb
      clear hb
      rcases hle with ⟨h1, h2⟩ | ⟨h1, h2⟩
      · have hd : decide ((j : Int) < n) = false := by simp; omega
        clear h2
        go_wp2
        go_ret
        exact ⟨rfl, HB.out⟩
      · have hd : decide ((j : Int) < n) = true := by simp; omega
        have hd2 : ¬ j < 1000 := by omega
        clear h2
        go_wp2
        go_ret
        exact ⟨rfl, HB.out⟩

set_option maxHeartbeats 400000 in
theorem secret_yes (w : World) (seed : ByteArray) (leaf k : Nat) (hl : leaf ≤ 65535) (hk : k < 67) (hs : seed.size ≤ 1000000) (ht : Tabs w) :
    Calls Tryz.prog 101 #[.string seed, .int .i64 leaf, .int .i64 k] w fun e w' => e = .returned (.tuple #[.string (secretB seed leaf k), .bool true]) ∧ Below w.heap.size w w' := by
  have h1 := numOk_yes (k := 2) (n := (leaf : Int)) (by omega) (by simp; omega)
  have hB1 := numB_yes h1
  have hsh := short_any (leaf : Int) (by omega)
  rw [hB1, h1] at hsh
  have h2 := numOk_yes (k := 1) (n := (k : Int)) (by omega) (by simp; omega)
  have hB2 := numB_yes h2
  have hby := byte_any (k : Int) (by omega)
  rw [hB2, h2] at hby
  have hq1 := be_size 2 (leaf : Int).toNat
  have hq2 := be_size 1 (k : Int).toNat
  have hsec : secretB seed leaf k = shaB ⟨(inputL 2 [seed, be 2 (leaf : Int).toNat, be 1 (k : Int).toNat]).toArray⟩ := rfl
  generalize be 2 (leaf : Int).toNat = L at *
  generalize be 1 (k : Int).toNat = B at *
  have htot : totL [seed, L, B] ≤ 2147483647 := by simp [totL]; omega
  have HTG := Lib.hid (fun W a c hT h => tag_any W 2 a c [seed, L, B] hT h htot (by simp))
  have HSH := Lib.hid hsh
  have HBY := Lib.hid hby
  have HSEC := Lib.hid hsec
  have HT := Lib.hid ht
  clear h1 hB1 hsh h2 hB2 hby hsec htot ht hq1 hq2
  go_enter Tryz.func101, Tryz.ntmps101
  go_wp2_with fail
  refine (HSH.out _).mono ?_
  rintro e w1 ⟨rfl, b1⟩
  go_wp2_with fail
  refine (HBY.out _).mono ?_
  rintro e w2 ⟨rfl, b2⟩
  have C2 := Lib.hid (b1.trans (b2.mono b1.size))
  clear b1 b2
  go_wp2_with fail
  have c3 := C2.out.alloc C2.out.size (.cells #[.string seed, .string L, .string B] 9)
  refine (HTG.out _ _ _ (HT.out.below c3) (strs3 _ _ _ _ _)).mono ?_
  rintro e w4 ⟨rfl, b4⟩
  have C4 := Lib.hid (c3.trans (b4.mono c3.size))
  clear b4 c3
  rw [← HSEC.out]
  go_wp2
  go_ret2
  exact ⟨rfl, C4.out⟩

set_option maxHeartbeats 400000 in
theorem secret_no (w : World) (seed : ByteArray) (leaf k : Int) (h : leaf < 0 ∨ 65535 < leaf ∨ k < 0 ∨ 67 ≤ k) (ml : leaf ≤ 9223372036854775807) (mk : k ≤ 9223372036854775807) :
    Calls Tryz.prog 101 #[.string seed, .int .i64 leaf, .int .i64 k] w fun e w' => e = .returned (.tuple #[.string ⟨#[]⟩, .bool false]) ∧ Below w.heap.size w w' := by
  have HSH := Lib.hid (short_any leaf ml)
  have HBY := Lib.hid (byte_any k mk)
  have hok : numOk 2 leaf = true ∨ numOk 2 leaf = false := by cases numOk 2 leaf <;> simp
  have hleaf : numOk 2 leaf = true → ¬ (leaf < 0 ∨ 65535 < leaf) := by
    intro e
    simp only [numOk, decide_eq_true_eq] at e
    have : (256 : Int) ^ 2 = 65536 := by decide
    omega
  rcases hok with e1 | e1
  · have h2 := hleaf e1
    rw [e1] at HSH
    generalize numB 2 leaf = L at *
    generalize numB 1 k = B at *
    generalize numOk 1 k = bb at *
    clear hleaf e1 ml mk
    have hkk : k < 0 ∨ (0 ≤ k ∧ 67 ≤ k) := by omega
    clear h h2
    rcases hkk with hk | ⟨hk, hk2⟩
    · have hd : decide (k < 0) = true := by simpa using hk
      go_enter Tryz.func101, Tryz.ntmps101
      go_wp2_with fail
      refine (HSH.out _).mono ?_
      rintro e w1 ⟨rfl, b1⟩
      go_wp2_with fail
      refine (HBY.out _).mono ?_
      rintro e w2 ⟨rfl, b2⟩
      have C2 := Lib.hid (b1.trans (b2.mono b1.size))
      clear b1 b2
      go_wp2
      go_ret2
      exact ⟨rfl, C2.out⟩
    · have hd : decide (k < 0) = false := by simp; omega
      have hd2 : decide (67 ≤ k) = true := by simpa using hk2
      go_enter Tryz.func101, Tryz.ntmps101
      go_wp2_with fail
      refine (HSH.out _).mono ?_
      rintro e w1 ⟨rfl, b1⟩
      go_wp2_with fail
      refine (HBY.out _).mono ?_
      rintro e w2 ⟨rfl, b2⟩
      have C2 := Lib.hid (b1.trans (b2.mono b1.size))
      clear b1 b2
      go_wp2
      go_ret2
      exact ⟨rfl, C2.out⟩
  · rw [e1] at HSH
    generalize numB 2 leaf = L at *
    generalize numB 1 k = B at *
    generalize numOk 1 k = bb at *
    clear hleaf e1 ml mk h
    go_enter Tryz.func101, Tryz.ntmps101
    go_wp2_with fail
    refine (HSH.out _).mono ?_
    rintro e w1 ⟨rfl, b1⟩
    go_wp2_with fail
    refine (HBY.out _).mono ?_
    rintro e w2 ⟨rfl, b2⟩
    have C2 := Lib.hid (b1.trans (b2.mono b1.size))
    clear b1 b2
    go_wp2
    go_ret2
    exact ⟨rfl, C2.out⟩

set_option maxHeartbeats 400000 in
theorem refsecret (w : World) (seed : ByteArray) (leaf k : Nat) (hl : leaf ≤ 65535) (hk : k < 67) (hs : seed.size ≤ 1000000) :
    Calls Tryz.prog 85 #[.string seed, .int .i64 leaf, .int .i64 k] w fun e w' => e = .returned (.string (secretB seed leaf k)) ∧ Below w.heap.size w w' := by
  have h1 := numOk_yes (k := 2) (n := (leaf : Int)) (by omega) (by simp; omega)
  have hB1 := numB_yes h1
  have hsh := number2_any (leaf : Int)
  rw [hB1, h1] at hsh
  have h2 := numOk_yes (k := 1) (n := (k : Int)) (by omega) (by simp; omega)
  have hB2 := numB_yes h2
  have hby := number1_any (k : Int)
  rw [hB2, h2] at hby
  have hq1 := be_size 2 (leaf : Int).toNat
  have hq2 := be_size 1 (k : Int).toNat
  have hsec : secretB seed leaf k = shaB ⟨(inputL 2 [seed, be 2 (leaf : Int).toNat, be 1 (k : Int).toNat]).toArray⟩ := rfl
  generalize be 2 (leaf : Int).toNat = L at *
  generalize be 1 (k : Int).toNat = B at *
  have htot : totL [seed, L, B] ≤ 9000000 := by simp [totL]; omega
  have HTG := Lib.hid (fun W a c h => reftag_any W 2 a c [seed, L, B] h htot (by simp))
  have HSH := Lib.hid hsh
  have HBY := Lib.hid hby
  have HSEC := Lib.hid hsec
  clear h1 hB1 hsh h2 hB2 hby hsec htot hq1 hq2
  go_enter Tryz.func85, Tryz.ntmps85
  go_wp2_with fail
  refine (HSH.out _).mono ?_
  rintro e w1 ⟨rfl, b1⟩
  go_wp2_with fail
  refine (HBY.out _).mono ?_
  rintro e w2 ⟨rfl, b2⟩
  have C2 := Lib.hid (b1.trans (b2.mono b1.size))
  clear b1 b2
  go_wp2_with fail
  have c3 := C2.out.alloc C2.out.size (.cells #[.string seed, .string L, .string B] 9)
  refine (HTG.out _ _ _ (strs3 _ _ _ _ _)).mono ?_
  rintro e w4 ⟨rfl, b4⟩
  have C4 := Lib.hid (c3.trans (b4.mono c3.size))
  clear b4 c3
  rw [← HSEC.out]
  go_wp2
  go_ret
  exact ⟨rfl, C4.out⟩

end Go.Proofs.YtanplccigmihfaaGreatDoor
