/-
  P9.2: an armed disk does just as many operations more, and nothing then, till it is crashed: for every two bytes.
  No condition beside the form's own.
-/
import Derived.Test.YtilddhemngcieaaDk13
import Derived.ProofKit
import Derived.OpenShut
import Derived.ShutString
import Derived.ChangeOld
import Derived.SizedLaws
namespace Go.Proofs.Ytilddhemngcieaa.DiskArmed
open Go.ChangeShapes Go.WideShapes Go.ChangeAt Go.RowKit Go.Pal Go.Pal.Dk
open Go.ChangeMaps (open_string shut_string)
set_option linter.unusedVariables false

def nF : ByteArray := ⟨#[102]⟩
def sX : ByteArray := ⟨#[120]⟩
def xs (i : Nat) : ByteArray := ⟨(List.replicate i 120).toArray⟩
theorem xs_size (i : Nat) : (xs i).size = i := by show (List.replicate i 120).toArray.size = i; simp
theorem xs_succ (i : Nat) : xs i ++ sX = xs (i + 1) := by
  rw [ByteArray.ext_iff, ByteArray.data_append]
  apply Array.toList_inj.1
  simp [xs, sX, List.replicate_succ']
def fA (i k : Nat) : List Fl := if i = 0 then [] else [⟨nF, xs i, k⟩]
theorem used_fA (i k : Nat) : usedF (fA i k) = i := by
  unfold fA; split
  · rename_i h; simp [usedF, h]
  · simp [usedF, xs_size]
theorem len_fA (i k : Nat) : (fA i k).length ≤ 1 := by unfold fA; split <;> simp
theorem put_fA (i k : Nat) : putF nF sX (fA i k) = fA (i + 1) (if i = 0 then 0 else k) := by
  by_cases h : i = 0
  · subst h; rfl
  · have e : fA i k = [⟨nF, xs i, k⟩] := by simp [fA, h]
    rw [e]
    simp [putF, atF_one, modF, more, xs_succ, fA, h]
theorem append_arm (i m : Nat) (hi : i < 5000) : appendD ⟨5000, fA i 0, true, some (m + 1)⟩ nF sX = (0, ⟨5000, fA (i + 1) 0, true, some m⟩) := by
  have hb : begE ⟨5000, fA i 0, true, some (m + 1)⟩ nF = 0 := by simp [begE, begD, show nameOk nF = true from by decide]
  unfold appendD
  rw [if_neg (by simp [hb]), if_neg (by show ¬ 5000 - usedF (fA i 0) < 1; rw [used_fA]; omega)]
  show (0, (⟨5000, putF nF sX (fA i 0), true, some m⟩ : Dk)) = _
  rw [put_fA]
  simp
theorem append_zero (i : Nat) : appendD ⟨5000, fA i 0, true, some 0⟩ nF sX = (6, ⟨5000, fA i 0, false, some 0⟩) := rfl
theorem append_off (i : Nat) : appendD ⟨5000, fA i 0, false, some 0⟩ nF sX = (6, ⟨5000, fA i 0, false, some 0⟩) := rfl
theorem crash_fA (k : Nat) (hk : k < 1000) : crashD ⟨5000, fA k 0, false, some 0⟩ [1000] = ⟨5000, fA k k, true, none⟩ := by
  unfold crashD fA
  by_cases h : k = 0
  · simp [h, crashF]
  · have e1 : keptF [1000] 0 ⟨nF, xs k, 0⟩ = k := by
      simp [keptF, xs_size]; omega
    have e2 : (xs k).extract 0 k = xs k := by
      have := xs_size k
      rw [ByteArray.ext_iff, ByteArray.data_extract]
      have h2 : (xs k).data.size = k := this
      rw [show (xs k).data.extract 0 k = (xs k).data.extract 0 (xs k).data.size by rw [h2]]
      simp
    simp [h, crashF, cutF, e1, e2]
theorem append_last (k : Nat) (hk : k < 1000) : appendD ⟨5000, fA k k, true, none⟩ nF sX = (0, ⟨5000, fA (k + 1) (if k = 0 then 0 else k), true, none⟩) := by
  unfold appendD
  rw [if_neg (by simp [begE_none 5000 _ nF (by decide)]), if_neg (by show ¬ 5000 - usedF (fA k k) < 1; rw [used_fA]; omega)]
  show (0, (⟨5000, putF nF sX (fA k k), true, none⟩ : Dk)) = _
  rw [put_fA]

set_option maxHeartbeats 1000000 in
set_option maxRecDepth 100000 in
theorem walk (n m : Int) (hn : (Lit.int .u8 n).wf = true) (hm : (Lit.int .u8 m).wf = true) (w : World) :
    Calls Try.prog 12 #[.int .u8 n, .int .u8 m] w fun e w' => e = .returned (.bool true) ∧ Below w.heap.size w w' := by
  have bn := bounds_u8 hn
  have bm := bounds_u8 hm
  clear hn hm
  obtain ⟨N, rfl⟩ := Int.eq_ofNat_of_zero_le bn.1
  obtain ⟨M, rfl⟩ := Int.eq_ofNat_of_zero_le bm.1
  obtain ⟨k, hk⟩ : ∃ k, N % 20 = k := ⟨_, rfl⟩
  obtain ⟨q, hq⟩ : ∃ q, M % 5 = q := ⟨_, rfl⟩
  have hkl : k < 20 := by omega
  have hql : q < 5 := by omega
  have e1 : (N : Int).tmod 20 = (k : Int) := by rw [← hk]; rfl
  have e2 : (M : Int).tmod 5 = (q : Int) := by rw [← hq]; rfl
  have e1' : (N : Int) % 20 = (k : Int) := by omega
  have e2' : (M : Int) % 5 = (q : Int) := by omega
  clear hk hq
  have HNEW := Lib.hid (new_yes w 5000 (by decide))
  rw [show ((5000 : Nat) : Int) = 5000 from rfl] at HNEW
  have HD0 := Lib.hid (new_at w w.heap.size 5000 (Nat.le_refl _) (by decide))
  rw [show ((5000 : Nat) : Int) = 5000 from rfl] at HD0
  have B0 := Lib.hid (new_below w (.cells #[.int .i64 5000, .int .i64 0, .map none, .bool true, .bool false, .int .i64 0] 79))
  have HA := Lib.hid awake9
  go_enter Try.func12, Try.ntmps12
  go_wp2_with fail
  refine HNEW.out.mono ?_
  rintro e w1 ⟨rfl, rfl⟩
  go_wp2_with fail
  refine (HA.out _).mono ?_
  rintro e w2 ⟨rfl, b2⟩
  have B2 := Lib.hid (B0.out.trans (b2.mono B0.out.size))
  have X2 := Lib.hid (HD0.out.below b2 (Nat.le_refl _))
  clear b2 HNEW HD0 B0
  have HARM := Lib.hid (arm_any X2.out (k : Int) (by omega))
  rw [show armD (newD 5000) (k : Int) = ⟨5000, fA 0 0, true, some k⟩ from rfl] at HARM
  go_wp2_with fail
  refine HARM.out.mono ?_
  rintro e w3 ⟨rfl, d3, g3⟩
  have B3 := Lib.hid (B2.out.grown g3 B2.out.size (by intro j hj; cases hj; exact Nat.le_refl _))
  have X3 := Lib.hid d3
  clear d3 g3 B2 X2 HARM
  go_wp2
  go_loopw [7] (fun i wr => ∃ j : Nat, j ≤ k ∧ i = .int .i64 j ∧ (∃ L, DkAt wr w.heap.size w.heap.size ⟨5000, fA j 0, true, some (k - j)⟩ L) ∧ Below w.heap.size w wr) (fun i _ => k - (intOf i).toNat)
  case atStart => exact ⟨0, Nat.zero_le _, rfl, ⟨_, X3.out⟩, B3.out⟩
  case round =>
    obtain ⟨j, hj, rfl, ⟨L, hD⟩, hB⟩ := hrel
    by_cases hlt : j < k
    · have dj : decide ((j : Int) < (k : Int)) = true := decide_eq_true (by omega)
      have hs : k - j = (k - (j + 1)) + 1 := by omega
      rw [hs] at hD
      have HAP := Lib.hid (append_any hD nF sX (by decide) (by decide) (by have := len_fA j 0; show (fA j 0).length ≤ _; omega))
      rw [append_arm j (k - (j + 1)) (by omega)] at HAP
      have HD := Lib.hid hD
      have HB := Lib.hid hB
      have HON := Lib.hid (fun (W : World) (L : Lay) (h : DkAt W w.heap.size w.heap.size ⟨5000, fA (j + 1) 0, true, some (k - (j + 1))⟩ L) => on_any h)
      clear hD hB hs
      unfold nF sX at HAP
      go_wp2_with fail
      refine HAP.out.mono ?_
      rintro e w4 ⟨rfl, hw4⟩
      obtain ⟨L4, D4, b4⟩ := Went.at HD.out hw4
      have X4 := Lib.hid D4
      have B4 := Lib.hid (HB.out.trans b4)
      clear hw4 D4 b4 HD HB HAP
      go_wp2_with fail
      refine (HON.out _ _ X4.out).mono ?_
      rintro e w5 ⟨rfl, rfl⟩
      go_wp2
      go_roundw
      case rel => exact ⟨j + 1, by omega, by go_num, ⟨_, X4.out⟩, B4.out⟩
      case measure => simp [intOf]; omega
    · have hjk : j = k := by omega
      have dj : decide ((j : Int) < (k : Int)) = false := decide_eq_false (by omega)
      rw [hjk, Nat.sub_self] at hD
      have HD := Lib.hid hD
      have HB := Lib.hid hB
      clear hD hB hjk hj X3 B3
      go_wp2
      rename World => w4
      clear hlt dj
      go_loopw [8] (fun i wr => ∃ j : Nat, j ≤ q + 1 ∧ i = .int .i64 j ∧ (∃ L, DkAt wr w.heap.size w.heap.size ⟨5000, fA k 0, decide (j = 0), some 0⟩ L) ∧ Below w.heap.size w wr) (fun i _ => q + 1 - (intOf i).toNat)
      case atStart => exact ⟨0, Nat.zero_le _, rfl, ⟨_, HD.out⟩, HB.out⟩
      case round =>
        obtain ⟨i, hi, rfl, ⟨L, hD⟩, hB⟩ := hrel
        by_cases hlt : i ≤ q
        · have di : decide ((i : Int) ≤ (q : Int)) = true := decide_eq_true (by omega)
          have HAP : Hid (Calls Try.prog 30 #[.pointer (some ⟨w.heap.size, 0, none⟩), .string nF, .string sX] wr fun e w' => e = .returned (.int .i64 6) ∧ Went wr w.heap.size w.heap.size ⟨5000, fA k 0, decide (i = 0), some 0⟩ L ⟨5000, fA k 0, false, some 0⟩ w') := Lib.hid (by
            have h0 := append_any hD nF sX (by decide) (by decide) (by have := len_fA k 0; show (fA k 0).length ≤ _; omega)
            cases i with
            | zero => rw [show decide ((0 : Nat) = 0) = true from rfl] at h0 ⊢; rw [append_zero] at h0; exact h0
            | succ s => rw [show decide (s + 1 = 0) = false from rfl] at h0 ⊢; rw [append_off] at h0; exact h0)
          have HD2 := Lib.hid hD
          have HB2 := Lib.hid hB
          have HON := Lib.hid (fun (W : World) (L : Lay) (h : DkAt W w.heap.size w.heap.size ⟨5000, fA k 0, false, some 0⟩ L) => on_any h)
          have HUS := Lib.hid (fun (W : World) (L : Lay) (h : DkAt W w.heap.size w.heap.size ⟨5000, fA k 0, false, some 0⟩ L) => used_any h)
          rw [used_fA] at HUS
          clear hD hB
          unfold nF sX at HAP
          go_wp2_with fail
          refine HAP.out.mono ?_
          rintro e w5 ⟨rfl, hw5⟩
          obtain ⟨L5, D5, b5⟩ := Went.at HD2.out hw5
          have X5 := Lib.hid D5
          have B5 := Lib.hid (HB2.out.trans b5)
          clear hw5 D5 b5 HD2 HB2 HAP
          go_wp2_with fail
          refine (HON.out _ _ X5.out).mono ?_
          rintro e w6 ⟨rfl, rfl⟩
          go_wp2_with fail
          refine (HUS.out _ _ X5.out).mono ?_
          rintro e w7 ⟨rfl, rfl⟩
          go_wp2
          go_roundw
          case rel => exact ⟨i + 1, by omega, by go_num, ⟨_, by rw [show decide (i + 1 = 0) = false from rfl]; exact X5.out⟩, B5.out⟩
          case measure => simp [intOf]; omega
        · have hi1 : i = q + 1 := by omega
          have di : decide ((i : Int) ≤ (q : Int)) = false := decide_eq_false (by omega)
          rw [hi1, show decide (q + 1 = 0) = false from rfl] at hD
          have hDlt := hD.blk.lt
          obtain ⟨W, hW⟩ : ∃ W, W = wr.alloc (.cells #[.int .i64 1000] 3) := ⟨_, rfl⟩
          have hDW : DkAt W w.heap.size w.heap.size ⟨5000, fA k 0, false, some 0⟩ L := by rw [hW]; exact hD.below (new_below wr _) (Nat.le_refl _)
          have hrow : IntRow W (some ⟨wr.heap.size, 0, none⟩) [1000] := .inr ⟨wr.heap.size, 0, rfl, by rw [hW]; simp, fun t ht => by
            have : t = 0 := by simp at ht; omega
            subst this
            rw [hW, World.cell?_alloc_mark]; rfl⟩
          have HCR := Lib.hid (crash_any hDW (by have := len_fA k 0; show (fA k 0).length ≤ _; omega) [1000] (some ⟨wr.heap.size, 0, none⟩) 1 hrow (fun b off _ e => by cases e; intro hf; have := hD.foot_lt hf; omega) (by decide) (fun x hx => by simp at hx; subst hx; decide))
          rw [crash_fA k (by omega)] at HCR
          have BW := Lib.hid (show Below w.heap.size w W by rw [hW]; exact hB.alloc (by have := hB.size; omega) _)
          have HDW := Lib.hid hDW
          have HON := Lib.hid (fun (W : World) (L : Lay) (h : DkAt W w.heap.size w.heap.size ⟨5000, fA k k, true, none⟩ L) => on_any h)
          have HAP := Lib.hid (fun (W : World) (L : Lay) (h : DkAt W w.heap.size w.heap.size ⟨5000, fA k k, true, none⟩ L) => append_any h nF sX (by decide) (by decide) (by have := len_fA k k; show (fA k k).length ≤ _; omega))
          rw [append_last k (by omega)] at HAP
          have HUS := Lib.hid (fun (W : World) (L : Lay) (h : DkAt W w.heap.size w.heap.size ⟨5000, fA (k + 1) (if k = 0 then 0 else k), true, none⟩ L) => used_any h)
          rw [used_fA] at HUS
          unfold nF sX at HAP
          clear hD hB hrow hDW hi1 HD HB
          go_wp2_with fail
          rw [← hW]
          refine HCR.out.mono ?_
          rintro e w5 ⟨rfl, hw5⟩
          obtain ⟨L5, D5, b5⟩ := Went.at HDW.out hw5
          have X5 := Lib.hid D5
          have B5 := Lib.hid (BW.out.trans b5)
          clear hw5 D5 b5 HDW BW HCR hW
          go_wp2_with fail
          refine (HON.out _ _ X5.out).mono ?_
          rintro e w6 ⟨rfl, rfl⟩
          go_wp2_with fail
          refine (HAP.out _ _ X5.out).mono ?_
          rintro e w7 ⟨rfl, hw7⟩
          obtain ⟨L7, D7, b7⟩ := Went.at X5.out hw7
          have X7 := Lib.hid D7
          have B7 := Lib.hid (B5.out.trans b7)
          clear hw7 D7 b7 X5 B5 HAP
          go_wp2_with fail
          refine (HUS.out _ _ X7.out).mono ?_
          rintro e w8 ⟨rfl, rfl⟩
          go_wp2
          go_ret
          exact ⟨rfl, B7.out⟩

theorem own : ownKnob Try.prog.godebug = none := by kernel_rfl
theorem laidOut : laidOutB Try.prog = true := by kernel_rfl

set_option maxRecDepth 100000 in
theorem lifted (os : Os) (started : os.Started) (H : Type) (enc : TypeId × Value → H) :
    ReturnsInHanded {} Try.checked os 12 .any (Rows.diskArmedSpec.pre6 enc Try.prog Try.f12 Rows.diskArmedRow.domain false) (Rows.diskArmedSpec.post enc Try.prog Try.f12 false true false false) := by
  refine returnsInHanded_of_change_sized (C := Try.checked) own started (by kernel_rfl) Try.func12
    (ChangeSpec.witness6 (enc := enc) (C := Try.checked) false ⟨#[], #[.int .u8 0, .int .u8 0], []⟩ 8 (by kernel_rfl) (by kernel_rfl) (by kernel_rfl) (by kernel_rfl)) ?_
  intro W base args ds gs before hval0 hW _ hsz0 _
  have hsz : (DataW.weightsEach Try.prog (Try.f12.params.toList ++ Rows.diskArmedSpec.plain.varTypes Try.prog) (ds ++ gs)).all (· ≤ reachBytes) = true := hsz0
  clear hsz0
  have hval : ∀ (j : Nat) t v, Try.f12.params[j]? = some t → args[j]? = some v → Value.okWide Try.prog W .any base t v := hval0
  have hW' := hW
  obtain ⟨p, q, hA0, hV, rfl, hfz, hnd⟩ := hW
  have hA : DataW.TrodAll enc Try.prog W 0 (fun _ => true) true Try.f12.params.toList args.toList ds p := hA0
  rw [Try.params12] at hA hval hsz
  obtain ⟨v0, vs0, d0, ds0, p0, q0, hargs, rfl, rfl, h0, r0⟩ := trodAll_cons hA
  obtain ⟨v1, vs1, d1, ds1, p1, q1, rfl, rfl, rfl, h1, r1⟩ := trodAll_cons r0
  obtain ⟨rfl, rfl, rfl⟩ := trodAll_nil r1
  obtain rfl : args = #[v0, v1] := by cases args; simp_all
  obtain ⟨rfl, rfl⟩ := trodVars_none hV
  obtain ⟨a0, rfl, rfl, rfl, w0⟩ := open_int Try.underlying5 (hval 0 5 v0 rfl rfl) h0
  obtain ⟨a1, rfl, rfl, rfl, w1⟩ := open_int Try.underlying5 (hval 1 5 v1 rfl rfl) h1
  clear hA0 hval0
  refine (walk a0 a1 w0 w1 W).mono fun e W' ⟨he, bel⟩ => ?_
  subst he
  exact ⟨_, rfl, _, _, _, [], [], [], hW', trodAll_mk1 (shut_bool Try.underlying4 _), (trodAll_cons_mk (shut_int Try.underlying5 w0) (trodAll_cons_mk (shut_int Try.underlying5 w1) trodAll_mk0)), rfl, bel.frame _, fun h => by cases h⟩

theorem over : Rows.diskArmedRow.holds Try.pinned (OpenSpec.ofChange Rows.diskArmedSpec) :=
  OpenClaim.holds_of_wide 12 Try.f12 rfl rfl rfl rfl rfl rfl rfl ⟨rfl, rfl, rfl, rfl, rfl⟩ rfl rfl rfl rfl rfl (by kernel_rfl) Try.func12 (by kernel_rfl)
    (of_decide_eq_true (by kernel_rfl)) (by unfold Func.isWrapper; first | (rw [if_pos (by decide +kernel)]; kernel_rfl) | (rw [if_neg (by decide +kernel)]; exact ⟨rfl, rfl⟩))
    (fun os started H enc _ => lifted os started H enc)

end Go.Proofs.Ytilddhemngcieaa.DiskArmed
namespace Go.Proofs.Ytilddhemngcieaa
theorem diskArmed_holds : Rows.DiskArmedSaid := DiskArmed.over
#print axioms diskArmed_holds
end Go.Proofs.Ytilddhemngcieaa

