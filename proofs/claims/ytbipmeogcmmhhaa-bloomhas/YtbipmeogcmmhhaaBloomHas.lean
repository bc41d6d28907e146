/-
  BloomHas: the program's Has answers as the document's own, of any bits and any id.
  No condition but what the row itself says.
-/
import Derived.Test.YtbipmeogcmmhhaaBl8
namespace Go.Pal
theorem hasB_great (s id : ByteArray) (h : 512 < s.size) : hasB s id = false := by
  unfold hasB
  rw [show placedB id (8 * s.size : Nat) = false from decide_eq_false (by omega)]; rfl
end Go.Pal
namespace Go.Proofs.Ytbipmeogcmmhhaa.BloomHas
open Go.ChangeShapes Go.WideShapes Go.ChangeAt Go.RowKit Go.Pal
open Go.ChangeMaps (open_string shut_string)
set_option linter.unusedVariables false

set_option maxHeartbeats 2000000 in
set_option maxRecDepth 100000 in
theorem refhas_all (s id : ByteArray) (hs : s.size ≤ 1000000) (w : World) :
    Calls Try.prog 46 #[.string s, .string id] w fun e w' => e = .returned (.bool (hasB s id)) ∧ Below w.heap.size w w' := by
  by_cases h : 512 < s.size
  · have d0 : decide (512 < (s.size : Int)) = true := decide_eq_true (by omega)
    have HH := Lib.hid (hasB_great s id h)
    clear h hs
    go_enter Try.func46, Try.ntmps46
    go_wp2
    go_ret
    exact ⟨by rw [HH.out]; rfl, Below.refl _ _⟩
  · exact refhas_any s id (by omega) w

set_option maxHeartbeats 2000000 in
set_option maxRecDepth 100000 in
theorem walk (s id : ByteArray) (hs : s.size ≤ 140737488351232) (hz : id.size ≤ 140737488351232) (w : World) :
    Calls Try.prog 12 #[.string s, .string id] w fun e w' => e = .returned (.bool true) ∧ Below w.heap.size w w' := by
  clear hs hz
  by_cases h1 : 2000 < s.size
  · have d0 : decide (2000 < (s.size : Int)) = true := decide_eq_true (by omega)
    clear h1
    go_enter Try.func12, Try.ntmps12
    go_wp2_with (go_at_call 37; refine (awake14 _).mono ?_; rintro e w2 ⟨rfl, b2⟩)
    go_ret
    exact ⟨rfl, b2⟩
  have d0 : decide (2000 < (s.size : Int)) = false := decide_eq_false (by omega)
  by_cases h2 : 300 < id.size
  · have d1 : decide (300 < (id.size : Int)) = true := decide_eq_true (by omega)
    clear h1 h2
    go_enter Try.func12, Try.ntmps12
    go_wp2_with (go_at_call 37; refine (awake14 _).mono ?_; rintro e w2 ⟨rfl, b2⟩)
    go_ret
    exact ⟨rfl, b2⟩
  have d1 : decide (300 < (id.size : Int)) = false := decide_eq_false (by omega)
  have HA := Lib.hid (fun W => has_any s id (by omega) W)
  have HB := Lib.hid (fun W => refhas_all s id (by omega) W)
  clear h1 h2
  generalize hasB s id = q at *
  cases q
  all_goals
    go_enter Try.func12, Try.ntmps12
    go_wp2_with (first
      | (go_at_call 45; refine (HA.out _).mono ?_; rintro e w1 ⟨rfl, b1⟩; have HB1 := Lib.hid b1; clear b1)
      | (go_at_call 46; refine (HB.out _).mono ?_; rintro e w2 ⟨rfl, b2⟩; have HB2 := Lib.hid (HB1.out.trans (b2.mono HB1.out.size)); clear b2)
      | (go_at_call 37; refine (awake14 _).mono ?_; rintro e w3 ⟨rfl, b3⟩))
    go_ret
    exact ⟨rfl, HB2.out.trans (b3.mono HB2.out.size)⟩

theorem own : ownKnob Try.prog.godebug = none := by kernel_rfl
theorem laidOut : laidOutB Try.prog = true := by kernel_rfl

set_option maxRecDepth 100000 in
theorem lifted (os : Os) (started : os.Started) (H : Type) (enc : TypeId × Value → H) :
    ReturnsInHanded {} Try.checked os 12 .any (Rows.bloomHasSpec.pre6 enc Try.prog Try.f12 Rows.bloomHasRow.domain false) (Rows.bloomHasSpec.post enc Try.prog Try.f12 false true false false) := by
  refine returnsInHanded_of_change_sized (C := Try.checked) own started (by kernel_rfl) Try.func12
    (ChangeSpec.witness6 (enc := enc) (C := Try.checked) false ⟨#[], #[.string ByteArray.empty, .string ByteArray.empty], []⟩ 8 (by kernel_rfl) (by kernel_rfl) (by kernel_rfl) (by kernel_rfl)) ?_
  intro W base args ds gs before hval0 hW _ hsz0 _
  have hsz : (DataW.weightsEach Try.prog (Try.f12.params.toList ++ Rows.bloomHasSpec.plain.varTypes Try.prog) (ds ++ gs)).all (· ≤ reachBytes) = true := hsz0
  clear hsz0
  have hval : ∀ (j : Nat) t v, Try.f12.params[j]? = some t → args[j]? = some v → Value.okWide Try.prog W .any base t v := hval0
  have hW' := hW
  obtain ⟨p, q, hA0, hV, rfl, hfz, hnd⟩ := hW
  have hA : DataW.TrodAll enc Try.prog W 0 (fun _ => true) true Try.f12.params.toList args.toList ds p := hA0
  rw [Try.params12] at hA hval hsz
  obtain ⟨v0, vs0, d0, ds0, p0, q0, hargs, rfl, rfl, h0, r0⟩ := trodAll_cons hA
  obtain ⟨v1, vs1, d1, ds1, p1, q1, rfl, rfl, rfl, h1, r1⟩ := trodAll_cons r0
  obtain ⟨rfl, rfl, rfl⟩ := trodAll_nil r1
  obtain rfl : args = #[v0, v1] := by cases args; simp_all
  obtain ⟨rfl, rfl⟩ := trodVars_none hV
  obtain ⟨a0, rfl, rfl, rfl, w0⟩ := open_string Try.underlying9 (hval 0 9 v0 rfl rfl) h0
  have z0 : a0.size ≤ 140737488351232 := by
    have := sized_string hsz (j := 0) (t := 9) rfl rfl
    simpa [reachBytes] using this
  obtain ⟨a1, rfl, rfl, rfl, w1⟩ := open_string Try.underlying9 (hval 1 9 v1 rfl rfl) h1
  have z1 : a1.size ≤ 140737488351232 := by
    have := sized_string hsz (j := 1) (t := 9) rfl rfl
    simpa [reachBytes] using this
  clear hA0 hval0
  refine (walk a0 a1 z0 z1 W).mono fun e W' ⟨he, bel⟩ => ?_
  subst he
  exact ⟨_, rfl, _, _, _, [], [], [], hW', trodAll_mk1 (shut_bool Try.underlying4 _), (trodAll_cons_mk (shut_string Try.underlying9 w0) (trodAll_cons_mk (shut_string Try.underlying9 w1) trodAll_mk0)), rfl, bel.frame _, fun h => by cases h⟩

theorem over : Rows.bloomHasRow.holds Try.pinned (OpenSpec.ofChange Rows.bloomHasSpec) :=
  OpenClaim.holds_of_wide 12 Try.f12 rfl rfl rfl rfl rfl rfl rfl ⟨rfl, rfl, rfl, rfl, rfl⟩ rfl rfl rfl rfl rfl (by kernel_rfl) Try.func12 (by kernel_rfl)
    (of_decide_eq_true (by kernel_rfl)) (by unfold Func.isWrapper; first | (rw [if_pos (by decide +kernel)]; kernel_rfl) | (rw [if_neg (by decide +kernel)]; exact ⟨rfl, rfl⟩))
    (fun os started H enc _ => lifted os started H enc)

end Go.Proofs.Ytbipmeogcmmhhaa.BloomHas
namespace Go.Proofs.Ytbipmeogcmmhhaa
theorem bloomHas_holds : Rows.BloomHasSaid := BloomHas.over
#print axioms bloomHas_holds
end Go.Proofs.Ytbipmeogcmmhhaa

