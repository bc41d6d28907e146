/-
  P9.1: of no disk nothing comes: for every act.
  No condition beside the form's own.
-/
import Derived.Test.YtilddhemngcieaaAOpen
import Derived.ProofKit
import Derived.OpenShut
import Derived.ShutString
import Derived.ChangeOld
import Derived.SizedLaws
namespace Go.Proofs.Ytilddhemngcieaa.DiskNone
open Go.ChangeShapes Go.WideShapes Go.ChangeAt Go.RowKit Go.Pal Go.Pal.Dk
open Go.ChangeMaps (open_string shut_string)
set_option linter.unusedVariables false

def noE (k : Int) : Int := if 0 ≤ k ∧ k ≤ 3 then 1 else 0
set_option maxHeartbeats 1000000 in
set_option maxRecDepth 100000 in
theorem do_nil (w : World) (c : Ac) :
    Calls Try.prog 25 #[.pointer none, c.val] w fun e w' => e = .returned (.tuple #[.string ByteArray.empty, .int .i64 (noE c.kind)]) ∧ Below w.heap.size w w' := by
  obtain ⟨k, nm, dt, m, keep, a, cap⟩ := c
  unfold Ac.val Ac.cells
  simp only []
  have BA := Lib.hid ((Below.refl w.heap.size w).alloc (Nat.le_refl _) (.cells #[.int .i64 k, .string nm, .string dt, .int .i64 m, .slice a keep.length cap] 51))
  by_cases h0 : k = 0
  · subst h0
    go_enter Try.func25, Try.ntmps25
    go_wp2_with (go_at_call 30; refine (append_nil _ _ _).mono ?_; rintro e w' ⟨rfl, rfl⟩)
    go_ret2
    exact ⟨rfl, BA.out⟩
  have c0 : (k == 0) = false := beq_eq_false_iff_ne.2 h0
  by_cases h1 : k = 1
  · subst h1
    go_enter Try.func25, Try.ntmps25
    go_wp2_with (go_at_call 31; refine (sync_nil _ _).mono ?_; rintro e w' ⟨rfl, rfl⟩)
    go_ret2
    exact ⟨rfl, BA.out⟩
  have c1 : (k == 1) = false := beq_eq_false_iff_ne.2 h1
  by_cases h2 : k = 2
  · subst h2
    go_enter Try.func25, Try.ntmps25
    go_wp2_with (go_at_call 47; refine (cut_nil _ _ _).mono ?_; rintro e w' ⟨rfl, rfl⟩)
    go_ret2
    exact ⟨rfl, BA.out⟩
  have c2 : (k == 2) = false := beq_eq_false_iff_ne.2 h2
  by_cases h3 : k = 3
  · subst h3
    go_enter Try.func25, Try.ntmps25
    go_wp2_with (go_at_call 33; refine (read_nil _ _).mono ?_; rintro e w' ⟨rfl, rfl⟩)
    go_ret2
    exact ⟨rfl, BA.out⟩
  have c3 : (k == 3) = false := beq_eq_false_iff_ne.2 h3
  have HE := Lib.hid (show noE k = 0 by unfold noE; rw [if_neg (by omega)])
  by_cases h4 : k = 4
  · subst h4
    clear h0 h1 h2 h3
    go_enter Try.func25, Try.ntmps25
    go_wp2_with (go_at_call 36; refine (arm_nil _ _).mono ?_; rintro e w' ⟨rfl, rfl⟩)
    go_ret2
    exact ⟨by rw [HE.out]; rfl, BA.out⟩
  have c4 : (k == 4) = false := beq_eq_false_iff_ne.2 h4
  clear h0 h1 h2 h3 h4
  go_enter Try.func25, Try.ntmps25
  go_wp2_with (go_at_call 32; refine (crash_nil _ _ _ _).mono ?_; rintro e w' ⟨rfl, rfl⟩)
  go_ret2
  exact ⟨by rw [HE.out]; rfl, BA.out⟩
set_option maxHeartbeats 1000000 in
set_option maxRecDepth 100000 in
theorem walk (c : Ac) (w : World) (hc : AcOk w c) :
    Calls Try.prog 13 #[c.val] w fun e w' => e = .returned (.bool true) ∧ Below w.heap.size w w' := by
  have HA := Lib.hid awake9
  have HDO := Lib.hid (fun w => do_nil w c)
  have hkb := hc.kind
  have hzn := hc.name
  have hzd := hc.data
  unfold maxLen at hzn hzd
  clear hc
  obtain ⟨k, nm, dt, m, keep, a, cap⟩ := c
  unfold Ac.val Ac.cells at *
  simp only [] at *
  have BA := Lib.hid ((Below.refl w.heap.size w).alloc (Nat.le_refl _) (.cells #[.int .i64 k, .string nm, .string dt, .int .i64 m, .slice a keep.length cap] 51))
  by_cases g1 : 500 < dt.size
  · have d1 : decide (500 < (dt.size : Int)) = true := decide_eq_true (by omega)
    clear g1
    go_enter Try.func13, Try.ntmps13
    go_wp2_with fail
    refine (HA.out _).mono ?_
    rintro e w1 ⟨rfl, b1⟩
    go_wp2
    go_ret
    exact ⟨rfl, BA.out.trans (b1.mono BA.out.size)⟩
  have d1 : decide (500 < (dt.size : Int)) = false := decide_eq_false (by omega)
  by_cases g2 : 500 < nm.size
  · have d2 : decide (500 < (nm.size : Int)) = true := decide_eq_true (by omega)
    clear g1 g2
    go_enter Try.func13, Try.ntmps13
    go_wp2_with fail
    refine (HA.out _).mono ?_
    rintro e w1 ⟨rfl, b1⟩
    go_wp2
    go_ret
    exact ⟨rfl, BA.out.trans (b1.mono BA.out.size)⟩
  have d2 : decide (500 < (nm.size : Int)) = false := decide_eq_false (by omega)
  clear g1 g2
  obtain ⟨w0, hw0⟩ : ∃ w0, w0 = w.alloc (.cells #[.int .i64 k, .string nm, .string dt, .int .i64 m, .slice a keep.length cap] 51) := ⟨_, rfl⟩
  have HD1 := Lib.hid (HDO.out w0)
  have HC := Lib.hid (show ∀ w1, Below w0.heap.size w0 w1 → w1.cell? ⟨w.heap.size, 0, none⟩ = some (.int .i64 k) by
    intro w1 hb
    rw [hb.cell (p := ⟨w.heap.size, 0, none⟩) (by rw [hw0]; simp), hw0, World.cell?_alloc_mark]; rfl)
  rw [hw0] at HD1 HC
  clear hw0 HDO
  by_cases hin : 0 ≤ k ∧ k ≤ 3
  · have e1 : noE k = 1 := by unfold noE; rw [if_pos hin]
    rw [e1] at HD1
    have l1 : decide ((0 : Int) ≤ k) = true := decide_eq_true hin.1
    have l2 : decide (k ≤ 3) = true := decide_eq_true hin.2
    clear hin e1
    go_enter Try.func13, Try.ntmps13
    go_wp2_with fail
    refine HD1.out.mono ?_
    rintro e w1 ⟨rfl, b1⟩
    have ck := HC.out w1 b1
    have B1 := Lib.hid (BA.out.trans (b1.mono BA.out.size))
    clear b1
    go_wp2_with (first | (go_at_call 35; refine (on_nil _).mono ?_; rintro e w' ⟨rfl, rfl⟩) | (go_at_call 37; refine (used_nil _).mono ?_; rintro e w' ⟨rfl, rfl⟩) | (go_at_call 34; refine (names_nil _).mono ?_; rintro e w' ⟨rfl, rfl⟩) | (go_at_call 23; refine (HA.out _).mono ?_; rintro e w5 ⟨rfl, b5⟩))
    go_ret
    exact ⟨rfl, B1.out.trans (b5.mono B1.out.size)⟩
  · have e1 : noE k = 0 := by unfold noE; rw [if_neg hin]
    rw [e1] at HD1
    by_cases l0 : 0 ≤ k
    · have l1 : decide ((0 : Int) ≤ k) = true := decide_eq_true l0
      have l2 : decide (k ≤ 3) = false := decide_eq_false (by omega)
      clear hin e1 l0
      go_enter Try.func13, Try.ntmps13
      go_wp2_with fail
      refine HD1.out.mono ?_
      rintro e w1 ⟨rfl, b1⟩
      have ck := HC.out w1 b1
      have B1 := Lib.hid (BA.out.trans (b1.mono BA.out.size))
      clear b1
      go_wp2_with (first | (go_at_call 35; refine (on_nil _).mono ?_; rintro e w' ⟨rfl, rfl⟩) | (go_at_call 37; refine (used_nil _).mono ?_; rintro e w' ⟨rfl, rfl⟩) | (go_at_call 34; refine (names_nil _).mono ?_; rintro e w' ⟨rfl, rfl⟩) | (go_at_call 23; refine (HA.out _).mono ?_; rintro e w5 ⟨rfl, b5⟩))
      go_ret
      exact ⟨rfl, B1.out.trans (b5.mono B1.out.size)⟩
    · have l1 : decide ((0 : Int) ≤ k) = false := decide_eq_false l0
      clear hin e1 l0
      go_enter Try.func13, Try.ntmps13
      go_wp2_with fail
      refine HD1.out.mono ?_
      rintro e w1 ⟨rfl, b1⟩
      have ck := HC.out w1 b1
      have B1 := Lib.hid (BA.out.trans (b1.mono BA.out.size))
      clear b1
      go_wp2_with (first | (go_at_call 35; refine (on_nil _).mono ?_; rintro e w' ⟨rfl, rfl⟩) | (go_at_call 37; refine (used_nil _).mono ?_; rintro e w' ⟨rfl, rfl⟩) | (go_at_call 34; refine (names_nil _).mono ?_; rintro e w' ⟨rfl, rfl⟩) | (go_at_call 23; refine (HA.out _).mono ?_; rintro e w5 ⟨rfl, b5⟩))
      go_ret
      exact ⟨rfl, B1.out.trans (b5.mono B1.out.size)⟩

theorem own : ownKnob Try.prog.godebug = none := by kernel_rfl
theorem laidOut : laidOutB Try.prog = true := by kernel_rfl

set_option maxRecDepth 100000 in
theorem lifted (os : Os) (started : os.Started) (H : Type) (enc : TypeId × Value → H) :
    ReturnsInHanded {} Try.checked os 13 .any (Rows.diskNoneSpec.pre6 enc Try.prog Try.f13 Rows.diskNoneRow.domain false) (Rows.diskNoneSpec.post enc Try.prog Try.f13 false true false false) := by
  refine returnsInHanded_of_change_sized (C := Try.checked) own started (by kernel_rfl) Try.func13
    (ChangeSpec.witness6 (enc := enc) (C := Try.checked) false ⟨#[], #[.agg #[.int .i64 0, .string ByteArray.empty, .string ByteArray.empty, .int .i64 0, .slice none 0 0]], []⟩ 8 (by kernel_rfl) (by kernel_rfl) (by kernel_rfl) (by kernel_rfl)) ?_
  intro W base args ds gs before hval0 hW _ hsz0 _
  have hsz : (DataW.weightsEach Try.prog (Try.f13.params.toList ++ Rows.diskNoneSpec.plain.varTypes Try.prog) (ds ++ gs)).all (· ≤ reachBytes) = true := hsz0
  clear hsz0
  have hval : ∀ (j : Nat) t v, Try.f13.params[j]? = some t → args[j]? = some v → Value.okWide Try.prog W .any base t v := hval0
  have hW' := hW
  obtain ⟨p, q, hA0, hV, rfl, hfz, hnd⟩ := hW
  have hA : DataW.TrodAll enc Try.prog W 0 (fun _ => true) true Try.f13.params.toList args.toList ds p := hA0
  rw [Try.params13] at hA hval hsz
  obtain ⟨v0, vs0, d0, ds0, p0, q0, hargs, rfl, rfl, h0, r0⟩ := trodAll_cons hA
  obtain ⟨rfl, rfl, rfl⟩ := trodAll_nil r0
  obtain rfl : args = #[v0] := by cases args; simp_all
  obtain ⟨rfl, rfl⟩ := trodVars_none hV
  have k0 := h0
  have lt0 : ∀ x ∈ p0, x.block < W.heap.size := by obtain ⟨m, hm⟩ := k0; exact DataW.trod_lt m _ _ _ hm
  obtain ⟨c0, rfl, i0⟩ := open_act (hval 0 51 v0 rfl rfl) h0
  clear hA0 hval0
  refine (walk c0  W i0).mono fun e W' ⟨he, bel⟩ => ?_
  subst he
  exact ⟨_, rfl, _, _, _, [], _, [], hW', trodAll_mk1 (shut_bool Try.underlying4 _), (trodAll_cons_mk (Below.trod laidOut (by kernel_rfl) (of_decide_eq_true (by kernel_rfl)) k0 bel lt0) trodAll_mk0), rfl, bel.frame _, fun h => by cases h⟩

theorem over : Rows.diskNoneRow.holds Try.pinned (OpenSpec.ofChange Rows.diskNoneSpec) :=
  OpenClaim.holds_of_wide 13 Try.f13 rfl rfl rfl rfl rfl rfl rfl ⟨rfl, rfl, rfl, rfl, rfl⟩ rfl rfl rfl rfl rfl (by kernel_rfl) Try.func13 (by kernel_rfl)
    (of_decide_eq_true (by kernel_rfl)) (by unfold Func.isWrapper; first | (rw [if_pos (by decide +kernel)]; kernel_rfl) | (rw [if_neg (by decide +kernel)]; exact ⟨rfl, rfl⟩))
    (fun os started H enc _ => lifted os started H enc)

end Go.Proofs.Ytilddhemngcieaa.DiskNone
namespace Go.Proofs.Ytilddhemngcieaa
theorem diskNone_holds : Rows.DiskNoneSaid := DiskNone.over
#print axioms diskNone_holds
end Go.Proofs.Ytilddhemngcieaa

