/-
  Contracts of the document's Sealed and Open, and of the law's own awake.
-/
import Derived.Test.YtilddhemngcieaaCr2
import Derived.Test.YtilddhemngcieaaCr3
import Derived.Test.YtilddhemngcieaaOct4
import Derived.Test.YtilddhemngcieaaVal
import Derived.Deep.RegionLaw
namespace Go.Pal.Cr
open Go.Pal Go.Pal.Fr
theorem ext_size (s : ByteArray) (a b : Nat) (h : b ≤ s.size) (_hab : a ≤ b) : (s.extract a b).size = b - a := by rw [ByteArray.size_extract]; omega
theorem opN_is (s : ByteArray) (h : 4 ≤ s.size) : (opN s).1 = valL (s.extract 0 4).data.toList := by simp [opN, numS, takeS, h]
theorem opN_rest (s : ByteArray) (h : 4 ≤ s.size) : (opN s).2 = some (s.extract 4 s.size) := by simp [opN, numS, takeS, h]
theorem open_short (s : ByteArray) (h : s.size < 8) : opOk s = false := by
  cases ho : opOk s
  · rfl
  · exfalso
    obtain ⟨y, _, h2, _⟩ := open_back s ho
    have := congrArg ByteArray.size h2
    rw [ByteArray.size_append, sealB_size] at this
    omega
theorem open_great (s : ByteArray) (h : 65535 < (opN s).1) : opOk s = false := by
  unfold opOk; rw [decide_eq_false (by omega), Bool.false_and]
theorem open_long (s : ByteArray) (_h8 : 8 ≤ s.size) (h : s.size - 8 < (opN s).1) : opOk s = false := by
  cases ho : opOk s
  · rfl
  · exfalso
    have hb := open_back s ho
    obtain ⟨y, h1, h2, _⟩ := hb
    obtain ⟨_, b2⟩ := takeS_some (show (takeS (opN s).1 (opC s).2).2 = some y from h1)
    have e1 : (opT s).1.size = (opN s).1 := b2
    have := congrArg ByteArray.size h2
    rw [ByteArray.size_append, sealB_size] at this
    omega
theorem open_eq (s : ByteArray) (h8 : 8 ≤ s.size) (hn : (opN s).1 ≤ 65535) (hl : (opN s).1 ≤ s.size - 8) (h : sealB (s.extract 8 (8 + (opN s).1)) = s.extract 0 (8 + (opN s).1)) : opOk s = true ∧ (opT s).1 = s.extract 8 (8 + (opN s).1) := by
  have hs : s = sealB (s.extract 8 (8 + (opN s).1)) ++ s.extract (8 + (opN s).1) s.size := by rw [h, ext_app _ _ (by omega)]
  have hz : (s.extract 8 (8 + (opN s).1)).size ≤ 65535 := by rw [ext_size _ _ _ (by omega) (by omega)]; omega
  have ht := open_there (s.extract 8 (8 + (opN s).1)) (s.extract (8 + (opN s).1) s.size) hz
  rw [← hs] at ht
  exact ⟨ht.1, ht.2.1⟩
theorem seal_cuts (t y : ByteArray) : (sealB t ++ y).extract 0 (8 + t.size) = sealB t ∧ (sealB t ++ y).extract 8 (8 + t.size) = t := by
  have ez : (sealB t).size = 8 + t.size := sealB_size t
  refine ⟨by rw [← ez]; exact ext_left _ _, ?_⟩
  have hp : (be 4 t.size ++ be 4 (moreB 0#32 t).toNat).size = 8 := by rw [ByteArray.size_append, be_size, be_size]
  unfold sealB
  rw [app_assoc]
  generalize be 4 t.size ++ be 4 (moreB 0#32 t).toNat = p at *
  have e4 : (p ++ (t ++ y)).extract 8 (p ++ (t ++ y)).size = t ++ y := by rw [← hp]; exact ext_right _ _
  have : (p ++ (t ++ y)).extract 8 (8 + t.size) = ((p ++ (t ++ y)).extract 8 (p ++ (t ++ y)).size).extract 0 t.size := by
    rw [ByteArray.extract_extract]
    congr 1
    rw [ByteArray.size_append, ByteArray.size_append]
    omega
  rw [this, e4]
  exact ext_left _ _
theorem open_ne (s : ByteArray) (h : sealB (s.extract 8 (8 + (opN s).1)) ≠ s.extract 0 (8 + (opN s).1)) : opOk s = false := by
  cases ho : opOk s
  · rfl
  · exfalso
    obtain ⟨y, h1, h2, _⟩ := open_back s ho
    obtain ⟨_, b2⟩ := takeS_some (show (takeS (opN s).1 (opC s).2).2 = some y from h1)
    have e1 : (opT s).1.size = (opN s).1 := b2
    rw [← e1] at h
    generalize (opT s).1 = t at *
    obtain ⟨c1, c2⟩ := seal_cuts t y
    rw [← h2] at c1 c2
    exact h (by rw [c1, c2])
def nine : ByteArray := ⟨#[49, 50, 51, 52, 53, 54, 55, 56, 57]⟩
theorem nine_sum : (moreB 0#32 nine).toNat = 3421780262 := by decide +kernel
end Go.Pal.Cr
namespace Go.Proofs.Ytilddhemngcieaa
open Go.RowKit Go.Pal Go.Pal.Fr Go.Pal.Cr

theorem eqT {a b : ByteArray} (h : a = b) : (a.toList == b.toList) = true := by rw [h]; simp
theorem list_inj {a b : ByteArray} (h : a.toList = b.toList) : a = b := by
  rw [ByteArray.ext_iff]
  exact Array.toList_inj.1 (by rw [← ByteArray.toList_eq, ← ByteArray.toList_eq]; exact h)
theorem eqF {a b : ByteArray} (h : a ≠ b) : (a.toList == b.toList) = false := by
  cases hc : (a.toList == b.toList)
  · rfl
  · exact absurd (list_inj (by simpa using hc)) h
set_option maxHeartbeats 400000 in
set_option maxRecDepth 100000 in
theorem refsealed_any (s : ByteArray) (hs : s.size ≤ 1000000) (w : World) :
    Calls Try.prog 19 #[.string s] w fun e w' => e = .returned (.string (sealB s)) ∧ Below w.heap.size w w' := by
  have HL := Lib.hid (fun w => number4 s.size (by omega) w)
  have HC := Lib.hid (fun w => number4 (moreB 0#32 s).toNat (moreB 0#32 s).isLt w)
  have HS := Lib.hid (fun w => refmore_any 0#32 s (by unfold maxLen; omega) w)
  have h1 := (moreB 0#32 s).isLt
  unfold sealB
  rw [v_nat, v_nat, show ((0#32).toNat : Int) = 0 from rfl] at HS
  generalize (moreB 0#32 s).toNat = c at *
  have z1 : (be 4 s.size).size = 4 := be_size _ _
  have z2 : (be 4 c).size = 4 := be_size _ _
  go_enter Try.func19, Try.ntmps19
  go_wp2_with fail
  refine (HL.out _).mono ?_
  rintro e w1 ⟨rfl, b1⟩
  go_wp2_with fail
  refine (HS.out _).mono ?_
  rintro e w2 ⟨rfl, b2⟩
  go_wp2_with fail
  refine (HC.out _).mono ?_
  rintro e w3 ⟨rfl, b3⟩
  go_wp2
  go_ret
  have b12 := b1.trans (b2.mono b1.size)
  exact ⟨rfl, b12.trans (b3.mono b12.size)⟩

set_option maxHeartbeats 400000 in
set_option maxRecDepth 100000 in
theorem awake8 (w : World) :
    Calls Try.prog 17 #[] w fun e w' => e = .returned (.bool true) ∧ Below w.heap.size w w' := by
  have HS := Lib.hid (fun w => sealed_yes nine (by decide) w)
  have HM := Lib.hid (fun w => sum_crc nine (by decide) w)
  have hz : (sealB nine).size = 17 := by rw [sealB_size]; rfl
  have HO := Lib.hid (fun w => open_any (sealB nine ++ ⟨#[120]⟩) (by rw [ByteArray.size_append, hz]; decide) w)
  have ht := open_there nine ⟨#[120]⟩ (by decide)
  rw [openV_yes ht.1, ht.2.1] at HO
  rw [v_nat, nine_sum] at HM
  have e9 : (nine.size : Nat) = 9 := rfl
  rw [e9] at HO
  clear ht e9
  generalize sealB nine = S at *
  unfold nine at *
  go_enter Try.func17, Try.ntmps17
  go_wp2_with fail
  refine (HS.out _).mono ?_
  rintro e w1 ⟨rfl, b1⟩
  go_wp2_with fail
  refine (HO.out _).mono ?_
  rintro e w2 ⟨rfl, b2⟩
  go_wp2_with fail
  refine (HM.out _).mono ?_
  rintro e w3 ⟨rfl, rfl⟩
  go_wp2
  go_ret
  exact ⟨rfl, b1.trans (b2.mono b1.size)⟩

set_option maxHeartbeats 1000000 in
set_option maxRecDepth 100000 in
theorem refopen_any (s : ByteArray) (hs : s.size ≤ 1000000) (w : World) :
    Calls Try.prog 21 #[.string s] w fun e w' => e = .returned (openV s) ∧ Below w.heap.size w w' := by
  by_cases h8 : s.size < 8
  · have d1 : decide ((s.size : Int) < 8) = true := decide_eq_true (by omega)
    have HE := Lib.hid (openV_no (open_short s h8))
    clear h8
    go_enter Try.func21, Try.ntmps21
    go_wp2
    go_ret3
    exact ⟨by rw [HE.out]; rfl, Below.refl _ _⟩
  have d1 : decide ((s.size : Int) < 8) = false := decide_eq_false (by omega)
  have HV := Lib.hid (fun w => value_any (s.extract 0 4) (by rw [ByteArray.size_extract]; omega) w)
  rw [← opN_is s (by omega)] at HV
  have hn : (opN s).1 < 4294967296 := numS_lt4 _
  by_cases h1 : 65535 < (opN s).1
  · have d2 : decide (65535 < ((opN s).1 : Int)) = true := decide_eq_true (by omega)
    have HE := Lib.hid (openV_no (open_great s h1))
    generalize (opN s).1 = n at *
    go_enter Try.func21, Try.ntmps21
    go_wp2_with fail
    refine (HV.out _).mono ?_
    rintro e w1 ⟨rfl, rfl⟩
    go_wp2
    go_ret3
    exact ⟨by rw [HE.out]; rfl, Below.refl _ _⟩
  have d2 : decide (65535 < ((opN s).1 : Int)) = false := decide_eq_false (by omega)
  by_cases h2 : s.size - 8 < (opN s).1
  · have d3 : decide ((s.size : Int) - 8 < ((opN s).1 : Int)) = true := decide_eq_true (by omega)
    have HE := Lib.hid (openV_no (open_long s (by omega) h2))
    generalize (opN s).1 = n at *
    go_enter Try.func21, Try.ntmps21
    go_wp2_with fail
    refine (HV.out _).mono ?_
    rintro e w1 ⟨rfl, rfl⟩
    go_wp2
    go_ret3
    exact ⟨by rw [HE.out]; rfl, Below.refl _ _⟩
  have d3 : decide ((s.size : Int) - 8 < ((opN s).1 : Int)) = false := decide_eq_false (by omega)
  have HEQ := Lib.hid (open_eq s (by omega) (by omega) (by omega))
  have HNE := Lib.hid (open_ne s)
  have a1 : (8 : Int) + (opN s).1 ≤ s.size := by omega
  have a2 : (8 : Int) ≤ 8 + (opN s).1 := by omega
  have a3 : (0 : Int) ≤ 8 + (opN s).1 := by omega
  have a4 : IntKind.i64.wrap ((8 : Int) + (opN s).1) = 8 + (opN s).1 := by rw [IntKind.wrap_i64]; omega
  have a5 : ((8 : Int) + (opN s).1).toNat = 8 + (opN s).1 := by omega
  have hz : (s.extract 8 (8 + (opN s).1)).size = (opN s).1 := by rw [ext_size _ _ _ (by omega) (by omega)]; omega
  have HS := Lib.hid (fun w => refsealed_any (s.extract 8 (8 + (opN s).1)) (by omega) w)
  have HY := Lib.hid (@openV_yes s)
  have HZ := Lib.hid (@openV_no s)
  generalize (opT s).1 = t at *
  generalize opOk s = ok at *
  generalize (opN s).1 = n at *
  generalize openV s = V at *
  go_enter Try.func21, Try.ntmps21
  go_wp2_with fail
  refine (HV.out _).mono ?_
  rintro e w1 ⟨rfl, rfl⟩
  go_wp2
  go_region_law (go_simp; go_at_call 19; refine (HS.out _).mono ?_; rintro e w2 ⟨rfl, b2⟩; simp only [])
  all_goals
    clear HS HV
    by_cases hq : sealB (s.extract 8 (8 + n)) = s.extract 0 (8 + n)
    · obtain ⟨hk, ht⟩ := HEQ.out hq
      have HE := Lib.hid (HY.out hk)
      rw [ht, hz] at HE
      rw [eqT hq]
      clear hq hk ht HEQ HNE HY HZ
      go_wp2
      go_ret3
      exact ⟨by rw [HE.out, Int.natCast_add]; rfl, ((Below.refl w.heap.size w).drew).trans b2⟩
    · have HE := Lib.hid (HZ.out (HNE.out hq))
      rw [eqF hq]
      clear hq HEQ HNE HY HZ
      go_wp2
      go_ret3
      exact ⟨by rw [HE.out]; rfl, ((Below.refl w.heap.size w).drew).trans b2⟩
end Go.Proofs.Ytilddhemngcieaa
