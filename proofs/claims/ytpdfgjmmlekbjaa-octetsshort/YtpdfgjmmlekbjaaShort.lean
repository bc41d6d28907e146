/-
  P1.3: a text that is laid, cut off anywhere, isn't read: the reader is bad: for every text and every place.
  No condition beside the form's own.
-/
import Derived.Test.YtpdfgjmmlekbjaaRdMath
import Derived.ProofKit
import Derived.OpenShut
import Derived.ShutString
import Derived.ChangeOld
import Derived.SizedLaws
namespace Go.Proofs.Ytpdfgjmmlekbjaa.OctetsShort
open Go.ChangeShapes Go.WideShapes Go.ChangeAt Go.RowKit Go.Pal
open Go.ChangeMaps (open_string shut_string)
set_option linter.unusedVariables false


set_option maxHeartbeats 400000 in
theorem walk_long (t : ByteArray) (at_ : Int) (ht : t.size ≤ 140737488351232) (h : ¬ t.size < 65536) (w : World) :
    Calls Try.prog 7 #[.string t, .int .i64 at_] w fun e w' => e = .returned (.bool true) ∧ Below w.heap.size w w' := by
  have hl : decide (65535 < (t.size : Int)) = true := by simp; omega
  go_enter Try.func7, Try.ntmps7
  go_wp2_with fail
  refine (text_no t h (by omega) _).mono ?_
  rintro e w1 ⟨rfl, b1⟩
  go_wp2_with fail
  refine (awake_any _).mono ?_
  rintro e w2 ⟨rfl, b2⟩
  go_wp2
  go_ret
  exact ⟨rfl, b1.trans (b2.mono b1.size)⟩

set_option maxHeartbeats 400000 in
theorem walk_yes (t : ByteArray) (at_ : Int) (wa : (Lit.int .i64 at_).wf = true) (h : t.size < 65536) (w : World) :
    Calls Try.prog 7 #[.string t, .int .i64 at_] w fun e w' => e = .returned (.bool true) ∧ Below w.heap.size w w' := by
  have ha := bounds_i64 wa
  clear wa
  have hz : (be 2 t.size ++ t).size = t.size + 2 := by rw [ByteArray.size_append, be_size]; omega
  have hz0 : ((t.size : Int) + 2 == 0) = false := beq_eq_false_iff_ne.2 (by omega)
  have hcut := fun k => rd_cut t k h
  generalize hL : be 2 t.size ++ t = L at *
  have HC := Lib.hid hcut
  have HL := Lib.hid hL
  clear hL hcut
  obtain ⟨k, hk, hkl⟩ : ∃ k : Nat, wrap64 ((IntKind.u64.wrap at_).tmod ((t.size : Int) + 2)) = (k : Int) ∧ k < t.size + 2 := by
    have e : 0 ≤ IntKind.u64.wrap at_ := by rw [IntKind.wrap_u64]; omega
    generalize IntKind.u64.wrap at_ = u at e
    rw [Int.tmod_eq_emod_of_nonneg e]
    have h1 := Int.emod_nonneg u (b := (t.size : Int) + 2) (by omega)
    have h2 := Int.emod_lt_of_pos u (b := (t.size : Int) + 2) (by omega)
    refine ⟨(u % ((t.size : Int) + 2)).toNat, ?_, by omega⟩
    unfold wrap64; omega
  have ht := text_yes t h w
  rw [HL.out] at ht
  have HT := Lib.hid ht
  clear ht
  go_enter Try.func7, Try.ntmps7
  go_wp2_with fail
  refine HT.out.mono ?_
  rintro e w1 ⟨rfl, b1⟩
  go_wp2_with fail
  have hsz : (L.extract 0 k).size ≤ 281474976710656 := by rw [ByteArray.size_extract]; omega
  have hno := HC.out k hkl
  generalize hX : L.extract 0 k = X at hno hsz ⊢
  have HX := Lib.hid hX
  clear hX hk hkl
  refine (read_any _ _).mono ?_
  rintro e w2 ⟨rfl, rfl⟩
  have hrd := rd_new X w1
  have ht2 := rtext_any2 _ _ _ _ hrd hsz
  rw [rdOut_none hno, hno] at ht2
  have hz2 : (rdRest (rdLen X false) (rdRest 2 X false) (!rdOk 2 X false)).size ≤ 281474976710656 := Nat.le_trans (rdRest_le _ _ _) (Nat.le_trans (rdRest_le _ _ _) hsz)
  generalize rdRest (rdLen X false) (rdRest 2 X false) (!rdOk 2 X false) = r2 at ht2 hz2
  have H2 := Lib.hid ht2
  clear ht2 hno hsz
  go_wp2_with fail
  refine H2.out.mono ?_
  rintro e w3 ⟨rfl, hr3, hg3⟩
  go_wp2_with fail
  refine (good_any _ _ _ _ hr3).mono ?_
  rintro e w4 ⟨rfl, rfl⟩
  go_wp2_with fail
  refine (rbyte_bad _ _ _ hr3 hz2).mono ?_
  rintro e w5 ⟨rfl, hr5, hg5⟩
  go_wp2_with fail
  refine (left_any _ _ _ _ hr5).mono ?_
  rintro e w6 ⟨rfl, rfl⟩
  go_wp2_with fail
  refine (end_any _ _ _ _ hr5).mono ?_
  rintro e w7 ⟨rfl, rfl⟩
  go_wp2_with fail
  refine (awake_any _).mono ?_
  rintro e w8 ⟨rfl, b8⟩
  go_wp2
  go_ret
  have c1 := b1.alloc b1.size (.cells #[.string X, .bool false] 48)
  have c2 := c1.grown hg3 c1.size (by intro k hk; cases hk; exact b1.size)
  have c3 := c2.grown hg5 c2.size (by intro k hk; cases hk; exact b1.size)
  exact ⟨rfl, c3.trans (b8.mono c3.size)⟩

theorem walk (t : ByteArray) (at_ : Int) (ht : t.size ≤ 140737488351232) (wa : (Lit.int .i64 at_).wf = true) (w : World) :
    Calls Try.prog 7 #[.string t, .int .i64 at_] w fun e w' => e = .returned (.bool true) ∧ Below w.heap.size w w' := by
  by_cases h : t.size < 65536
  · exact walk_yes t at_ wa h w
  · exact walk_long t at_ ht h w

theorem own : ownKnob Try.prog.godebug = none := by kernel_rfl
theorem laidOut : laidOutB Try.prog = true := by kernel_rfl

set_option maxRecDepth 100000 in
theorem lifted (os : Os) (started : os.Started) (H : Type) (enc : TypeId × Value → H) :
    ReturnsInHanded {} Try.checked os 7 .any (Rows.octetsShortSpec.pre6 enc Try.prog Try.f7 Rows.octetsShortRow.domain false) (Rows.octetsShortSpec.post enc Try.prog Try.f7 false true false false) := by
  refine returnsInHanded_of_change_sized (C := Try.checked) own started (by kernel_rfl) Try.func7
    (ChangeSpec.witness6 (enc := enc) (C := Try.checked) false ⟨#[], #[.string ByteArray.empty, .int .i64 0], []⟩ 8 (by kernel_rfl) (by kernel_rfl) (by kernel_rfl) (by kernel_rfl)) ?_
  intro W base args ds gs before hval0 hW _ hsz0 _
  have hsz : (DataW.weightsEach Try.prog (Try.f7.params.toList ++ Rows.octetsShortSpec.plain.varTypes Try.prog) (ds ++ gs)).all (· ≤ reachBytes) = true := hsz0
  clear hsz0
  have hval : ∀ (j : Nat) t v, Try.f7.params[j]? = some t → args[j]? = some v → Value.okWide Try.prog W .any base t v := hval0
  have hW' := hW
  obtain ⟨p, q, hA0, hV, rfl, hfz, hnd⟩ := hW
  have hA : DataW.TrodAll enc Try.prog W 0 (fun _ => true) true Try.f7.params.toList args.toList ds p := hA0
  rw [Try.params7] at hA hval hsz
  obtain ⟨v0, vs0, d0, ds0, p0, q0, hargs, rfl, rfl, h0, r0⟩ := trodAll_cons hA
  obtain ⟨v1, vs1, d1, ds1, p1, q1, rfl, rfl, rfl, h1, r1⟩ := trodAll_cons r0
  obtain ⟨rfl, rfl, rfl⟩ := trodAll_nil r1
  obtain rfl : args = #[v0, v1] := by cases args; simp_all
  obtain ⟨rfl, rfl⟩ := trodVars_none hV
  obtain ⟨a0, rfl, rfl, rfl, w0⟩ := open_string Try.underlying9 (hval 0 9 v0 rfl rfl) h0
  have z0 : a0.size ≤ 140737488351232 := by
    have := sized_string hsz (j := 0) (t := 9) rfl rfl
    simpa [reachBytes] using this
  obtain ⟨a1, rfl, rfl, rfl, w1⟩ := open_int Try.underlying3 (hval 1 3 v1 rfl rfl) h1
  clear hA0 hval0
  refine (walk a0 a1 z0 w1 W).mono fun e W' ⟨he, bel⟩ => ?_
  subst he
  exact ⟨_, rfl, _, _, _, [], [], [], hW', trodAll_mk1 (shut_bool Try.underlying4 _), (trodAll_cons_mk (shut_string Try.underlying9 w0) (trodAll_cons_mk (shut_int Try.underlying3 w1) trodAll_mk0)), rfl, bel.frame _, fun h => by cases h⟩

theorem over : Rows.octetsShortRow.holds Try.pinned (OpenSpec.ofChange Rows.octetsShortSpec) :=
  OpenClaim.holds_of_wide 7 Try.f7 rfl rfl rfl rfl rfl rfl rfl ⟨rfl, rfl, rfl, rfl, rfl⟩ rfl rfl rfl rfl rfl (by kernel_rfl) Try.func7 (by kernel_rfl)
    (of_decide_eq_true (by kernel_rfl)) (by unfold Func.isWrapper; first | (rw [if_pos (by decide +kernel)]; kernel_rfl) | (rw [if_neg (by decide +kernel)]; exact ⟨rfl, rfl⟩))
    (fun os started H enc _ => lifted os started H enc)

end Go.Proofs.Ytpdfgjmmlekbjaa.OctetsShort
namespace Go.Proofs.Ytpdfgjmmlekbjaa
theorem octetsShort_holds : Rows.OctetsShortSaid := OctetsShort.over
#print axioms octetsShort_holds
end Go.Proofs.Ytpdfgjmmlekbjaa

