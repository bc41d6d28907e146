/-
  P9.3: what was synced is there behind any crash, and behind it a beginning of what was appended since: for every two texts and every list of ints.
  No condition beside the form's own.
-/
import Derived.Test.YtilddhemngcieaaAOpen
import Derived.ProofKit
import Derived.OpenShut
import Derived.ShutString
import Derived.ChangeOld
import Derived.SizedLaws
namespace Go.Proofs.Ytilddhemngcieaa.DiskSafe
open Go.ChangeShapes Go.WideShapes Go.ChangeAt Go.RowKit Go.Pal Go.Pal.Dk
open Go.ChangeMaps (open_string shut_string)
set_option linter.unusedVariables false

def nF : ByteArray := ⟨#[102]⟩
theorem eqT {a b : ByteArray} (h : a = b) : (a.toList == b.toList) = true := by rw [h]; simp
theorem ext_pre (s : ByteArray) (k : Nat) (h : k ≤ s.size) : (s.extract 0 k).size = k := by rw [ByteArray.size_extract]; omega
set_option maxHeartbeats 1000000 in
set_option maxRecDepth 100000 in
theorem walk (s t : ByteArray) (x : Option Addr) (kc : Nat) (keep : List Int) (hs : s.size ≤ 140737488351232) (ht : t.size ≤ 140737488351232) (w : World) (hr : IntRow w x keep) (hk : IntsOk keep) :
    Calls Try.prog 10 #[.string s, .string t, .slice x keep.length kc] w fun e w' => e = .returned (.bool true) ∧ Below w.heap.size w w' := by
  have HA := Lib.hid awake9
  by_cases h1 : 500 < s.size
  · have d1 : decide (500 < (s.size : Int)) = true := decide_eq_true (by omega)
    clear h1
    go_enter Try.func10, Try.ntmps10
    go_wp2_with fail
    refine (HA.out _).mono ?_
    rintro e w1 ⟨rfl, b1⟩
    go_wp2
    go_ret
    exact ⟨rfl, b1⟩
  have d1 : decide (500 < (s.size : Int)) = false := decide_eq_false (by omega)
  by_cases h2 : 500 < t.size
  · have d2 : decide (500 < (t.size : Int)) = true := decide_eq_true (by omega)
    clear h1 h2
    go_enter Try.func10, Try.ntmps10
    go_wp2_with fail
    refine (HA.out _).mono ?_
    rintro e w1 ⟨rfl, b1⟩
    go_wp2
    go_ret
    exact ⟨rfl, b1⟩
  have d2 : decide (500 < (t.size : Int)) = false := decide_eq_false (by omega)
  have HNEW := Lib.hid (fun w => new_yes w 2000 (by decide))
  rw [show ((2000 : Nat) : Int) = 2000 from rfl] at HNEW
  have HD0 := Lib.hid (fun (W : World) (hb : w.heap.size ≤ W.heap.size) => new_at W w.heap.size 2000 hb (by decide))
  rw [show ((2000 : Nat) : Int) = 2000 from rfl] at HD0
  have hn : nameOk nF = true := by decide
  have s1 : appendD (newD 2000) nF s = (0, oneD 2000 nF s 0 true none) := append_first 2000 nF s hn (by omega)
  have s2 := sync_one 2000 nF s 0 hn
  have s3 := append_more 2000 nF s t s.size hn (by omega)
  have s4 := crash_one 2000 nF (s ++ t) s.size true none keep
  have hkl : s.size ≤ keptF keep 0 ⟨nF, s ++ t, s.size⟩ ∧ keptF keep 0 ⟨nF, s ++ t, s.size⟩ ≤ (s ++ t).size := by
    simp only [keptF, ByteArray.size_append]; omega
  have hst : (s ++ t).size = s.size + t.size := ByteArray.size_append
  have A1 := Lib.hid (fun (W : World) (D : Nat) (L : Lay) (h : DkAt W w.heap.size D (newD 2000) L) => append_any h nF s (by decide) (by unfold maxLen; omega) (by decide))
  have A2 := Lib.hid (fun (W : World) (D : Nat) (L : Lay) (h : DkAt W w.heap.size D (oneD 2000 nF s 0 true none) L) => sync_any h nF (by decide))
  have A3 := Lib.hid (fun (W : World) (D : Nat) (L : Lay) (h : DkAt W w.heap.size D (oneD 2000 nF s s.size true none) L) => append_any h nF t (by decide) (by unfold maxLen; omega) (by show 1 ≤ _; omega))
  have A4 := Lib.hid (fun (W : World) (D : Nat) (L : Lay) (h : DkAt W w.heap.size D (oneD 2000 nF (s ++ t) s.size true none) L) (hb : Below w.heap.size w W) => crash_any h (by show 1 ≤ _; omega) keep x kc (by
      rcases hr with h0 | ⟨b, off, h1, h2, h3⟩
      · exact .inl h0
      · exact .inr ⟨b, off, h1, Nat.lt_of_lt_of_le h2 hb.size, fun i hi => (hb.cell (p := ⟨b, off + i, none⟩) h2).trans (h3 i hi)⟩) (fun b off hne e hf => by
      rcases hr with h0 | ⟨b', off', h1, h2, _⟩
      · exact hne h0
      · rw [e] at h1; cases h1; have := h.foot_base hf; omega) hk.1 hk.2)
  rw [s1] at A1
  rw [s2] at A2
  rw [s3] at A3
  rw [s4] at A4
  have A5 := Lib.hid (fun (W : World) (D : Nat) (L : Lay) (h : DkAt W w.heap.size D (oneD 2000 nF ((s ++ t).extract 0 (keptF keep 0 ⟨nF, s ++ t, s.size⟩)) (keptF keep 0 ⟨nF, s ++ t, s.size⟩) true none) L) => read_any h nF (by decide))
  rw [read_one] at A5
  clear s1 s2 s3 s4 hn hr hk
  generalize keptF keep 0 ⟨nF, s ++ t, s.size⟩ = k at *
  have hez := ext_pre (s ++ t) k hkl.2
  obtain ⟨k1, k2⟩ := hkl
  have HEQ := Lib.hid (eqT (show (s ++ t).extract 0 k = (s ++ t).extract 0 k from rfl))
  have e5 : decide ((s.size : Int) ≤ (k : Int)) = true := decide_eq_true (by omega)
  have e6 : decide ((k : Int) ≤ (s.size : Int) + (t.size : Int)) = true := decide_eq_true (by omega)
  have k3 : (k : Int) ≤ (s.size : Int) + (t.size : Int) := by omega
  unfold nF at *
  go_enter Try.func10, Try.ntmps10
  go_wp2_with fail
  refine (HA.out _).mono ?_
  rintro e w1 ⟨rfl, b1⟩
  go_wp2_with fail
  refine (HNEW.out _).mono ?_
  rintro e w2 ⟨rfl, rfl⟩
  have X2 := Lib.hid (HD0.out w1 b1.size)
  have B2 := Lib.hid (b1.alloc b1.size (.cells #[.int .i64 2000, .int .i64 0, .map none, .bool true, .bool false, .int .i64 0] 79))
  clear b1 HD0 HNEW
  generalize w1.heap.size = D at *
  go_wp2_with fail
  refine (A1.out _ _ _ X2.out).mono ?_
  rintro e w3 ⟨rfl, hw3⟩
  obtain ⟨L3, D3, b3⟩ := Went.at X2.out hw3
  have X3 := Lib.hid D3
  have B3 := Lib.hid (B2.out.trans b3)
  clear hw3 D3 b3 X2 B2 A1
  go_wp2_with fail
  refine (A2.out _ _ _ X3.out).mono ?_
  rintro e w4 ⟨rfl, hw4⟩
  obtain ⟨L4, D4, b4⟩ := Went.at X3.out hw4
  have X4 := Lib.hid D4
  have B4 := Lib.hid (B3.out.trans b4)
  clear hw4 D4 b4 X3 B3 A2
  go_wp2_with fail
  refine (A3.out _ _ _ X4.out).mono ?_
  rintro e w5 ⟨rfl, hw5⟩
  obtain ⟨L5, D5, b5⟩ := Went.at X4.out hw5
  have X5 := Lib.hid D5
  have B5 := Lib.hid (B4.out.trans b5)
  clear hw5 D5 b5 X4 B4 A3
  go_wp2_with fail
  refine (A4.out _ _ _ X5.out B5.out).mono ?_
  rintro e w6 ⟨rfl, hw6⟩
  obtain ⟨L6, D6, b6⟩ := Went.at X5.out hw6
  have X6 := Lib.hid D6
  have B6 := Lib.hid (B5.out.trans b6)
  clear hw6 D6 b6 X5 B5 A4
  go_wp2_with fail
  refine (A5.out _ _ _ X6.out).mono ?_
  rintro e w7 ⟨rfl, rfl⟩
  go_wp2
  go_ret
  exact ⟨rfl, B6.out⟩

theorem own : ownKnob Try.prog.godebug = none := by kernel_rfl
theorem laidOut : laidOutB Try.prog = true := by kernel_rfl

set_option maxRecDepth 100000 in
theorem lifted (os : Os) (started : os.Started) (H : Type) (enc : TypeId × Value → H) :
    ReturnsInHanded {} Try.checked os 10 .any (Rows.diskSafeSpec.pre6 enc Try.prog Try.f10 Rows.diskSafeRow.domain false) (Rows.diskSafeSpec.post enc Try.prog Try.f10 false true false false) := by
  refine returnsInHanded_of_change_sized (C := Try.checked) own started (by kernel_rfl) Try.func10
    (ChangeSpec.witness6 (enc := enc) (C := Try.checked) false ⟨#[], #[.string ByteArray.empty, .string ByteArray.empty, .slice none 0 0], []⟩ 8 (by kernel_rfl) (by kernel_rfl) (by kernel_rfl) (by kernel_rfl)) ?_
  intro W base args ds gs before hval0 hW _ hsz0 _
  have hsz : (DataW.weightsEach Try.prog (Try.f10.params.toList ++ Rows.diskSafeSpec.plain.varTypes Try.prog) (ds ++ gs)).all (· ≤ reachBytes) = true := hsz0
  clear hsz0
  have hval : ∀ (j : Nat) t v, Try.f10.params[j]? = some t → args[j]? = some v → Value.okWide Try.prog W .any base t v := hval0
  have hW' := hW
  obtain ⟨p, q, hA0, hV, rfl, hfz, hnd⟩ := hW
  have hA : DataW.TrodAll enc Try.prog W 0 (fun _ => true) true Try.f10.params.toList args.toList ds p := hA0
  rw [Try.params10] at hA hval hsz
  obtain ⟨v0, vs0, d0, ds0, p0, q0, hargs, rfl, rfl, h0, r0⟩ := trodAll_cons hA
  obtain ⟨v1, vs1, d1, ds1, p1, q1, rfl, rfl, rfl, h1, r1⟩ := trodAll_cons r0
  obtain ⟨v2, vs2, d2, ds2, p2, q2, rfl, rfl, rfl, h2, r2⟩ := trodAll_cons r1
  obtain ⟨rfl, rfl, rfl⟩ := trodAll_nil r2
  obtain rfl : args = #[v0, v1, v2] := by cases args; simp_all
  obtain ⟨rfl, rfl⟩ := trodVars_none hV
  obtain ⟨a0, rfl, rfl, rfl, w0⟩ := open_string Try.underlying9 (hval 0 9 v0 rfl rfl) h0
  have z0 : a0.size ≤ 140737488351232 := by
    have := sized_string hsz (j := 0) (t := 9) rfl rfl
    simpa [reachBytes] using this
  obtain ⟨a1, rfl, rfl, rfl, w1⟩ := open_string Try.underlying9 (hval 1 9 v1 rfl rfl) h1
  have z1 : a1.size ≤ 140737488351232 := by
    have := sized_string hsz (j := 1) (t := 9) rfl rfl
    simpa [reachBytes] using this
  obtain ⟨x2, len2, cap2, rfl⟩ := okWide_slice Try.underlying49 (hval 2 49 v2 rfl rfl)
  have k2 := h2
  have lt2 : ∀ x ∈ p2, x.block < W.heap.size := by obtain ⟨m, hm⟩ := k2; exact DataW.trod_lt m _ _ _ hm
  obtain ⟨l2, rfl, i2, m2⟩ : ∃ l : List Int, len2 = l.length ∧ IntRow W x2 l ∧ IntsOk l := by
    obtain ⟨fuel, hf⟩ := h2
    obtain ⟨a, l, cap, e, hr, hk⟩ := ints_of (show DataW.trod enc Try.prog W 0 (fun _ => true) true fuel 49 [.slice x2 len2 cap2] = some _ from hf)
    cases e
    exact ⟨l, rfl, hr, hk⟩
  clear hA0 hval0
  refine (walk a0 a1 x2 cap2 l2 z0 z1 W i2 m2).mono fun e W' ⟨he, bel⟩ => ?_
  subst he
  exact ⟨_, rfl, _, _, _, [], _, [], hW', trodAll_mk1 (shut_bool Try.underlying4 _), (trodAll_cons_mk (shut_string Try.underlying9 w0) (trodAll_cons_mk (shut_string Try.underlying9 w1) (trodAll_cons_mk (Below.trod laidOut (by kernel_rfl) (of_decide_eq_true (by kernel_rfl)) k2 bel lt2) trodAll_mk0))), rfl, bel.frame _, fun h => by cases h⟩

theorem over : Rows.diskSafeRow.holds Try.pinned (OpenSpec.ofChange Rows.diskSafeSpec) :=
  OpenClaim.holds_of_wide 10 Try.f10 rfl rfl rfl rfl rfl rfl rfl ⟨rfl, rfl, rfl, rfl, rfl⟩ rfl rfl rfl rfl rfl (by kernel_rfl) Try.func10 (by kernel_rfl)
    (of_decide_eq_true (by kernel_rfl)) (by unfold Func.isWrapper; first | (rw [if_pos (by decide +kernel)]; kernel_rfl) | (rw [if_neg (by decide +kernel)]; exact ⟨rfl, rfl⟩))
    (fun os started H enc _ => lifted os started H enc)

end Go.Proofs.Ytilddhemngcieaa.DiskSafe
namespace Go.Proofs.Ytilddhemngcieaa
theorem diskSafe_holds : Rows.DiskSafeSaid := DiskSafe.over
#print axioms diskSafe_holds
end Go.Proofs.Ytilddhemngcieaa

