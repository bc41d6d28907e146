/-
  P12.1, P12.2: of no dag nothing comes, for every id and every list of parents.
  No condition but what the row itself says.
-/
import Derived.Test.YtabongfoeoideaaDgk
import Derived.Test.YtabongfoeoideaaDgc
import Derived.Test.YtabongfoeoideaaWOp
namespace Go.Proofs.Ytabongfoeoideaa.DagNone
open Go.ChangeShapes Go.WideShapes Go.ChangeAt Go.RowKit Go.Pal
open Go.ChangeMaps (open_string shut_string)
set_option linter.unusedVariables false

theorem dpNil (w : World) : DagP w 0 none none (fun _ => .slice none 0 0) [] := .inl ⟨rfl, rfl, rfl⟩
set_option maxHeartbeats 2000000 in
set_option maxRecDepth 100000 in
theorem walk (s : ByteArray) (a : Option Addr) (cap : Nat) (l : List ByteArray) (hs : s.size ≤ 140737488351232) (w : World) (h : StrsAt w a l) :
    Calls Try.prog 9 #[.string s, .slice a l.length cap] w fun e w' => e = .returned (.bool true) ∧ Below w.heap.size w w' := by
  have hml : s.size ≤ maxLen := by unfold maxLen; omega
  have HML := Lib.hid hml
  obtain ⟨n, hn⟩ : ∃ n, n = l.length := ⟨_, rfl⟩
  rw [← hn]
  clear hn h hml hs
  by_cases h1 : 300 < s.size
  · have h1i : (300 : Int) < (s.size : Int) := by omega
    go_enter Try.func9, Try.ntmps9
    go_wp2_with (go_at_call 11; refine (awake12 _).mono ?_; rintro e w2 ⟨rfl, b2⟩)
    go_ret
    exact ⟨rfl, b2⟩
  by_cases h2 : 60 < n
  · go_enter Try.func9, Try.ntmps9
    go_wp2_with (go_at_call 11; refine (awake12 _).mono ?_; rintro e w2 ⟨rfl, b2⟩)
    go_ret
    exact ⟨rfl, b2⟩
  go_enter Try.func9, Try.ntmps9
  go_wp2_with (first
    | (go_at_call 14; refine (dadd_nil _ _ _ _ _).mono ?_; rintro e w' ⟨rfl, e9⟩; rw [e9]; clear e9 w')
    | (go_at_call 15; refine (dhas_nil _ HML.out).mono ?_; rintro e w' ⟨rfl, e9⟩; rw [e9]; clear e9 w')
    | (go_at_call 17; refine (dlen_nil _).mono ?_; rintro e w' ⟨rfl, e9⟩; rw [e9]; clear e9 w')
    | (go_at_call 19; refine (dparents_nil w HML.out).mono ?_; rintro e w1 ⟨v1, rfl, h1, hb1⟩; obtain ⟨p1, c1, rfl, _⟩ := rowS_form h1; have B1 := Lib.hid hb1; clear h1 hb1)
    | (go_at_call 23; refine (dheads_any (dpNil w1) DagOk.nil).mono ?_; rintro e w2 ⟨v2, rfl, h2, hb2⟩; obtain ⟨p2, c2, rfl, _⟩ := rowS_form h2; have B2 := Lib.hid (B1.out.trans (hb2.mono B1.out.size)); clear h2 hb2)
    | (go_at_call 21; refine (dpast_at (dpNil w2) DagOk.nil HML.out).mono ?_; rintro e w3 ⟨v3, rfl, h3, hb3⟩; obtain ⟨p3, c3, rfl, _⟩ := rowS_form h3; have B3 := Lib.hid (B2.out.trans (hb3.mono B2.out.size)); clear h3 hb3)
    | (go_at_call 27; refine (dahead_at (dpNil w3) DagOk.nil HML.out HML.out).mono ?_; rintro e w4 ⟨rfl, hb4⟩; have B4 := Lib.hid (B3.out.trans (hb4.mono B3.out.size)); clear hb4)
    | (go_at_call 25; refine (dorder_nil w4).mono ?_; rintro e w5 ⟨v5, rfl, h5, hb5⟩; obtain ⟨p5, c5, rfl, _⟩ := rowS_form h5; have B5 := Lib.hid (B4.out.trans (hb5.mono B4.out.size)); clear h5 hb5)
    | (go_at_call 29; refine (dcopy_nil _).mono ?_; rintro e w' ⟨rfl, e9⟩; rw [e9]; clear e9 w')
    | (go_at_call 11; refine (awake12 _).mono ?_; rintro e w7 ⟨rfl, b7⟩))
  go_ret
  exact ⟨rfl, B5.out.trans (b7.mono B5.out.size)⟩

theorem own : ownKnob Try.prog.godebug = none := by kernel_rfl
theorem laidOut : laidOutB Try.prog = true := by kernel_rfl

set_option maxRecDepth 100000 in
theorem lifted (os : Os) (started : os.Started) (H : Type) (enc : TypeId × Value → H) :
    ReturnsInHanded {} Try.checked os 9 .any (Rows.dagNoneSpec.pre6 enc Try.prog Try.f9 Rows.dagNoneRow.domain false) (Rows.dagNoneSpec.post enc Try.prog Try.f9 false true false false) := by
  refine returnsInHanded_of_change_sized (C := Try.checked) own started (by kernel_rfl) Try.func9
    (ChangeSpec.witness6 (enc := enc) (C := Try.checked) false ⟨#[], #[.string ByteArray.empty, .slice none 0 0], []⟩ 8 (by kernel_rfl) (by kernel_rfl) (by kernel_rfl) (by kernel_rfl)) ?_
  intro W base args ds gs before hval0 hW _ hsz0 _
  have hsz : (DataW.weightsEach Try.prog (Try.f9.params.toList ++ Rows.dagNoneSpec.plain.varTypes Try.prog) (ds ++ gs)).all (· ≤ reachBytes) = true := hsz0
  clear hsz0
  have hval : ∀ (j : Nat) t v, Try.f9.params[j]? = some t → args[j]? = some v → Value.okWide Try.prog W .any base t v := hval0
  have hW' := hW
  obtain ⟨p, q, hA0, hV, rfl, hfz, hnd⟩ := hW
  have hA : DataW.TrodAll enc Try.prog W 0 (fun _ => true) true Try.f9.params.toList args.toList ds p := hA0
  rw [Try.params9] at hA hval hsz
  obtain ⟨v0, vs0, d0, ds0, p0, q0, hargs, rfl, rfl, h0, r0⟩ := trodAll_cons hA
  obtain ⟨v1, vs1, d1, ds1, p1, q1, rfl, rfl, rfl, h1, r1⟩ := trodAll_cons r0
  obtain ⟨rfl, rfl, rfl⟩ := trodAll_nil r1
  obtain rfl : args = #[v0, v1] := by cases args; simp_all
  obtain ⟨rfl, rfl⟩ := trodVars_none hV
  obtain ⟨a0, rfl, rfl, rfl, w0⟩ := open_string Try.underlying9 (hval 0 9 v0 rfl rfl) h0
  have z0 : a0.size ≤ 140737488351232 := by
    have := sized_string hsz (j := 0) (t := 9) rfl rfl
    simpa [reachBytes] using this
  obtain ⟨x1, len1, cap1, rfl⟩ := okWide_slice Try.underlying30 (hval 1 30 v1 rfl rfl)
  have k1 := h1
  have lt1 : ∀ x ∈ p1, x.block < W.heap.size := by obtain ⟨m, hm⟩ := k1; exact DataW.trod_lt m _ _ _ hm
  obtain ⟨l1, rfl, i1⟩ : ∃ l : List ByteArray, len1 = l.length ∧ StrsAt W x1 l := by
    obtain ⟨fuel, hf⟩ := h1
    obtain ⟨a, l, cap, e, _, hr⟩ := strs_of (show DataW.trod enc Try.prog W 0 (fun _ => true) true fuel 30 [.slice x1 len1 cap1] = some _ from hf) (lo_each hsz (j := 1) rfl rfl)
    cases e
    exact ⟨l, rfl, hr⟩
  clear hA0 hval0
  refine (walk a0 x1 cap1 l1 z0 W i1).mono fun e W' ⟨he, bel⟩ => ?_
  subst he
  exact ⟨_, rfl, _, _, _, [], _, [], hW', trodAll_mk1 (shut_bool Try.underlying4 _), (trodAll_cons_mk (shut_string Try.underlying9 w0) (trodAll_cons_mk (Below.trod laidOut (by kernel_rfl) (of_decide_eq_true (by kernel_rfl)) k1 bel lt1) trodAll_mk0)), rfl, bel.frame _, fun h => by cases h⟩

theorem over : Rows.dagNoneRow.holds Try.pinned (OpenSpec.ofChange Rows.dagNoneSpec) :=
  OpenClaim.holds_of_wide 9 Try.f9 rfl rfl rfl rfl rfl rfl rfl ⟨rfl, rfl, rfl, rfl, rfl⟩ rfl rfl rfl rfl rfl (by kernel_rfl) Try.func9 (by kernel_rfl)
    (of_decide_eq_true (by kernel_rfl)) (by unfold Func.isWrapper; first | (rw [if_pos (by decide +kernel)]; kernel_rfl) | (rw [if_neg (by decide +kernel)]; exact ⟨rfl, rfl⟩))
    (fun os started H enc _ => lifted os started H enc)

end Go.Proofs.Ytabongfoeoideaa.DagNone
namespace Go.Proofs.Ytabongfoeoideaa
theorem dagNone_holds : Rows.DagNoneSaid := DagNone.over
#print axioms dagNone_holds
end Go.Proofs.Ytabongfoeoideaa

