/-
  Contracts of package crc: divide, More, Sum.
-/
import Derived.Test.YtffnkomnldgcaaaGreatDoorRows
import Derived.Test.YtffnkomnldgcaaaGreatDoorCr0
import Derived.WalkKit
import Derived.WalkSpells
import Derived.WalkLawsBesides
import Derived.Deep.Light
import Derived.Lib.Hide
namespace Go.Proofs.YtffnkomnldgcaaaGreatDoor
open Go.RowKit Go.Pal Go.Pal.Cr

/-- A register as the number that a slot holds. -/
def v (x : BitVec 32) : Int := x.toNat
theorem v_nonneg (x : BitVec 32) : 0 ≤ v x := by unfold v; omega
theorem v_lt (x : BitVec 32) : v x < 4294967296 := by have := x.isLt; unfold v; omega
theorem v_le (x : BitVec 32) : v x ≤ 4294967295 := by have := v_lt x; omega
theorem v_toNat (x : BitVec 32) : (v x).toNat = x.toNat := by unfold v; simp
theorem v_inj {x y : BitVec 32} (h : v x = v y) : x = y := by
  apply BitVec.eq_of_toNat_eq; unfold v at h; omega
theorem v_xor (x y : BitVec 32) : bits .xor .u32 (v x) (v y) = v (x ^^^ y) := by
  rw [u32_xor _ _ (v_nonneg x) (v_lt x) (v_nonneg y) (v_lt y), v_toNat, v_toNat]
  unfold v; rw [BitVec.toNat_xor]
theorem v_poly (x : BitVec 32) : bits .xor .u32 (v x) 3988292384 = v (x ^^^ poly) := v_xor x poly
theorem v_and (x y : BitVec 32) : bits .and .u32 (v x) (v y) = v (x &&& y) := by
  rw [u32_and _ _ (v_nonneg x) (v_lt x) (v_nonneg y) (v_lt y), v_toNat, v_toNat]
  unfold v; rw [BitVec.toNat_and]
theorem v_odd (x : BitVec 32) (h : x.getLsbD 0 = true) : bits .and .u32 (v x) 1 = 1 := by
  have e := v_and x 1#32
  rw [show v 1#32 = 1 from rfl] at e
  rw [e]
  have : x &&& 1#32 = 1#32 := by
    apply BitVec.eq_of_getLsbD_eq
    intro i hi
    rw [BitVec.getLsbD_and]
    cases i with
    | zero => rw [h]; rfl
    | succ j => simp [BitVec.getLsbD_one]
  rw [this]; rfl
theorem v_even (x : BitVec 32) (h : x.getLsbD 0 = false) : bits .and .u32 (v x) 1 = 0 := by
  have e := v_and x 1#32
  rw [show v 1#32 = 1 from rfl] at e
  rw [e]
  have : x &&& 1#32 = 0#32 := by
    apply BitVec.eq_of_getLsbD_eq
    intro i hi
    rw [BitVec.getLsbD_and]
    cases i with
    | zero => rw [h]; rfl
    | succ j => simp [BitVec.getLsbD_one]
  rw [this]; rfl
theorem v_shr (x : BitVec 32) : v x / (2 : Int) = v (x >>> 1) := by
  unfold v; rw [BitVec.toNat_ushiftRight, Nat.shiftRight_eq_div_pow]; omega
theorem v_not (x : BitVec 32) : 4294967295 - v x = v (~~~ x) := by
  have := x.isLt
  unfold v; rw [BitVec.toNat_not]; omega
theorem v_byte (b : UInt8) : (b.toNat : Int) = v (BitVec.ofNat 32 b.toNat) := by
  have := b.toNat_lt
  unfold v; rw [BitVec.toNat_ofNat]; omega
theorem step_odd (x : BitVec 32) (h : x.getLsbD 0 = true) : crStep x = (x >>> 1) ^^^ poly := by unfold crStep; rw [h]; rfl
theorem step_even (x : BitVec 32) (h : x.getLsbD 0 = false) : crStep x = x >>> 1 := by unfold crStep; rw [h]; simp
theorem ret_u {a b : Int} (h : a = b) : Ending.returned (.int .u32 a) = .returned (.int .u32 b) := by rw [h]

theorem v_notx (x : BitVec 32) : bits .xor .u32 IntKind.u32.max (v x) = v (~~~ x) := by
  have e : IntKind.u32.max = v 0xffffffff#32 := rfl
  rw [e, v_xor]
  have h : (0xffffffff#32) ^^^ x = ~~~ x := by
    rw [show (0xffffffff#32) = BitVec.allOnes 32 from rfl, BitVec.allOnes_xor]
  rw [h]

set_option maxHeartbeats 400000 in
set_option maxRecDepth 100000 in
theorem divide_any (r : BitVec 32) (w : World) :
    Calls Tryz.prog 96 #[.int .u32 (v r)] w fun e w' => e = .returned (.int .u32 (v (iter 8 r))) ∧ w' = w := by
  have V0 := Lib.hid v_nonneg
  have V1 := Lib.hid v_lt
  have VS := Lib.hid v_shr
  have VE := Lib.hid v_even
  have VO := Lib.hid v_odd
  have VP := Lib.hid v_poly
  generalize v = v at *
  go_enter Tryz.func96, Tryz.ntmps96
  go_wp2
  go_loop [0, 4] (fun x i => ∃ k : Nat, k ≤ 8 ∧ i = .int .i64 k ∧ x = .int .u32 (v (iter k r))) (fun _ i => 8 - (intOf i).toNat)
  case atStart => exact ⟨0, by omega, rfl, rfl⟩
  case round =>
    obtain ⟨k, hk, rfl, rfl⟩ := hrel
    by_cases hlt : k < 8
    · have HS := Lib.hid (iter_snoc k r)
      generalize iter k r = x at *
      have h0 := V0.out x
      have h1 := V1.out x
      have hd := VS.out x
      have HE := Lib.hid (step_even x)
      have HO := Lib.hid (step_odd x)
      generalize x >>> 1 = y at *
      have d0 := V0.out y
      have d1 := V1.out y
      cases hb : x.getLsbD 0
      · have ha := VE.out x hb
        have HB := Lib.hid hb
        clear hb
        go_wp2
        go_round
        case rel => exact ⟨k + 1, by omega, by go_num, by rw [HS.out, HE.out HB.out]⟩
        case measure => simp [intOf]; omega
      · have ha := VO.out x hb
        have hp := VP.out y
        have HB := Lib.hid hb
        clear hb
        go_wp2
        go_round
        case rel => exact ⟨k + 1, by omega, by go_num, by rw [HS.out, HO.out HB.out]⟩
        case measure => simp [intOf]; omega
    · obtain rfl : k = 8 := by omega
      go_wp2
      go_ret
      exact ⟨rfl, rfl⟩

theorem crc_take (r : BitVec 32) (s : ByteArray) (k : Nat) (h : k < s.size) : crcB r (s.data.toList.take (k + 1)) = iter 8 (crcB r (s.data.toList.take k) ^^^ BitVec.ofNat 32 s[k].toNat) := by
  rw [List.take_succ_eq_append_getElem (by simpa using h), crcB_snoc]; rfl

set_option maxHeartbeats 400000 in
set_option maxRecDepth 100000 in
theorem more_any (sum : BitVec 32) (s : ByteArray) (hs : s.size ≤ maxLen) (w : World) :
    Calls Tryz.prog 88 #[.int .u32 (v sum), .string s] w fun e w' => e = .returned (.int .u32 (v (moreB sum s))) ∧ w' = w := by
  unfold maxLen at hs
  have V0 := Lib.hid v_nonneg
  have V1 := Lib.hid v_lt
  have VX := Lib.hid v_xor
  have VB := Lib.hid v_byte
  have VN := Lib.hid v_notx
  have HD := Lib.hid (fun r => divide_any r w)
  have hM : moreB sum s = ~~~ (crcB (~~~ sum) s.data.toList) := rfl
  rw [hM]
  have HT := Lib.hid (crc_take (~~~ sum) s)
  have HA := Lib.hid (show s.data.toList.take s.size = s.data.toList from List.take_of_length_le (by simp))
  clear hM
  generalize v = v at *
  have hn := VN.out sum
  have hsg : IntKind.u32.signed = false := rfl
  go_enter Tryz.func88, Tryz.ntmps88
  go_wp2
  go_loop [5, 11] (fun x i => ∃ k : Nat, k ≤ s.size ∧ i = .int .i64 k ∧ x = .int .u32 (v (crcB (~~~ sum) (s.data.toList.take k)))) (fun _ i => s.size - (intOf i).toNat)
  case atStart => exact ⟨0, by omega, rfl, rfl⟩
  case round =>
    obtain ⟨k, hk, rfl, rfl⟩ := hrel
    by_cases hlt : k < s.size
    · have H1 := Lib.hid (HT.out k hlt)
      have hb := s[k].toNat_lt
      have hby := VB.out s[k]
      generalize crcB (~~~ sum) (s.data.toList.take k) = x at *
      generalize BitVec.ofNat 32 s[k].toNat = y at *
      have hx := VX.out x y
      go_wp2_with (go_at_call 96; refine (HD.out _).mono ?_; rintro e w' ⟨rfl, rfl⟩)
      go_round
      case rel => exact ⟨k + 1, by omega, by go_num, by rw [H1.out]⟩
      case measure => simp [intOf]; omega
    · obtain rfl : k = s.size := by omega
      rw [HA.out]
      have hm := VN.out (crcB (~~~ sum) s.data.toList)
      go_wp2
      go_ret
      exact ⟨rfl, rfl⟩

set_option maxHeartbeats 400000 in
theorem sum_crc (s : ByteArray) (hs : s.size ≤ maxLen) (w : World) :
    Calls Tryz.prog 72 #[.string s] w fun e w' => e = .returned (.int .u32 (v (moreB 0#32 s))) ∧ w' = w := by
  have HM := Lib.hid (more_any 0#32 s hs w)
  rw [show v 0#32 = 0 from rfl] at HM
  generalize v (moreB 0#32 s) = c at *
  go_enter Tryz.func72, Tryz.ntmps72
  go_wp2_with (go_at_call 88; refine HM.out.mono ?_; rintro e w' ⟨rfl, rfl⟩)
  go_ret
  exact ⟨rfl, rfl⟩
end Go.Proofs.YtffnkomnldgcaaaGreatDoor
