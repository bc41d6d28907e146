/-
  BloomSizes: the program's Size and Places answer as the document's own do, at every count of ids, every id and every count of bits.
  No condition but what the row itself says.
-/
import Derived.Test.YtbipmeogcmmhhaaBl8
namespace Go.Proofs.Ytbipmeogcmmhhaa.BloomSizes
open Go.ChangeShapes Go.WideShapes Go.ChangeAt Go.RowKit Go.Pal
open Go.ChangeMaps (open_string shut_string)
set_option linter.unusedVariables false

set_option maxHeartbeats 2000000 in
set_option maxRecDepth 100000 in
theorem walk (n : Int) (id : ByteArray) (m : Int) (hn : (Lit.int .i64 n).wf = true) (hz : id.size ≤ 140737488351232) (hm : (Lit.int .i64 m).wf = true) (w : World) :
    Calls Try.prog 10 #[.int .i64 n, .string id, .int .i64 m] w fun e w' => e = .returned (.bool true) ∧ Below w.heap.size w w' := by
  clear hn hm
  by_cases h300 : 300 < id.size
  · have d0 : decide (300 < (id.size : Int)) = true := decide_eq_true (by omega)
    clear h300 hz
    go_enter Try.func10, Try.ntmps10
    go_wp2_with (go_at_call 37; refine (awake14 _).mono ?_; rintro e w2 ⟨rfl, b2⟩)
    go_ret
    exact ⟨rfl, b2⟩
  have d0 : decide (300 < (id.size : Int)) = false := decide_eq_false (by omega)
  have HZ := Lib.hid (fun W => size_any n W)
  have HRZ := Lib.hid (fun W => refsize_any n W)
  generalize sizeB n = q at *
  clear h300 hz
  cases hpl : placedB id m with
  | false =>
    have HA := Lib.hid (fun W => places_no id m hpl W)
    have HB := Lib.hid (fun W => refplaces_no id m hpl W)
    clear hpl
    go_enter Try.func10, Try.ntmps10
    go_wp2_with (first
      | (go_at_call 38; refine (HA.out _).mono ?_; rintro e w1 ⟨rfl, rfl⟩)
      | (go_at_call 39; refine (HB.out _).mono ?_; rintro e w1 ⟨rfl, rfl⟩))
    refine wp_loop_rounds 1 ?_
    rw [rounds_succ]
    go_wp2_with (first
      | (go_at_call 40; refine (HZ.out _).mono ?_; rintro e w1 ⟨rfl, rfl⟩)
      | (go_at_call 41; refine (HRZ.out _).mono ?_; rintro e w1 ⟨rfl, rfl⟩)
      | (go_at_call 37; refine (awake14 _).mono ?_; rintro e w2 ⟨rfl, b2⟩))
    go_ret
    exact ⟨rfl, b2⟩
  | true =>
    have h' : id.size = 32 ∧ 1 ≤ m ∧ m ≤ 4096 := of_decide_eq_true hpl
    obtain ⟨k, rfl⟩ := Int.eq_ofNat_of_zero_le (a := m) (by omega)
    have HA := Lib.hid (fun W => places_yes id k h'.1 (by omega) (by omega) W)
    have HB := Lib.hid (fun W => refplaces_yes id k h'.1 (by omega) (by omega) W)
    clear hpl h'
    go_enter Try.func10, Try.ntmps10
    go_wp2_with (first
      | (go_at_call 38; refine (HA.out _).mono ?_; rintro e w1 ⟨g, rfl, hg, hgl, hb1⟩; have HG1 := Lib.hid hg; have HB1 := Lib.hid hb1; clear hg hgl hb1)
      | (go_at_call 39; refine (HB.out _).mono ?_; rintro e w2 ⟨r, rfl, hg, hgl, hb1⟩; have HG2 := Lib.hid (HG1.out.below hb1 HG1.out.lt); have HR2 := Lib.hid hg; have HB2 := Lib.hid (HB1.out.trans (hb1.mono HB1.out.size)); clear hg hgl hb1))
    go_loopw [9] (fun j wr => ∃ c : Nat, c ≤ 4 ∧ j = .int .i64 c ∧ Blk wr g 3 (plV id k) ∧ Blk wr r 3 (plV id k) ∧ Below w.heap.size w wr) (fun j _ => 4 - (intOf j).toNat)
    case atStart => exact ⟨0, Nat.zero_le _, rfl, HG2.out, HR2.out, HB2.out⟩
    case round =>
      obtain ⟨c, hc4, rfl, hG, hR, hb⟩ := hrel
      have HG3 := Lib.hid hG
      have HR3 := Lib.hid hR
      have HB3 := Lib.hid hb
      by_cases hcl : c < 4
      · have cg : wr.cell? ⟨g, c, none⟩ = some (.int .i64 (placeB id k c : Nat)) := by rw [hG.cell, plV_get id k c hcl]
        have cr : wr.cell? ⟨r, c, none⟩ = some (.int .i64 (placeB id k c : Nat)) := by rw [hR.cell, plV_get id k c hcl]
        have c1 : (c : Int) < 4 := by omega
        generalize placeB id k c = p at *
        clear hG hR hb
        go_wp2
        go_region
        go_wp2
        go_roundw
        case rel => exact ⟨c + 1, by omega, by go_num, HG3.out.drew, HR3.out.drew, below_drew HB3.out⟩
        case measure => simp [intOf]; omega
      · obtain rfl : c = 4 := by omega
        clear hG hR hb
        go_wp2_with (first
          | (go_at_call 40; refine (HZ.out _).mono ?_; rintro e w1 ⟨rfl, rfl⟩)
          | (go_at_call 41; refine (HRZ.out _).mono ?_; rintro e w1 ⟨rfl, rfl⟩)
          | (go_at_call 37; refine (awake14 _).mono ?_; rintro e w2 ⟨rfl, b2⟩))
        go_ret
        exact ⟨rfl, HB3.out.trans (b2.mono HB3.out.size)⟩

theorem own : ownKnob Try.prog.godebug = none := by kernel_rfl
theorem laidOut : laidOutB Try.prog = true := by kernel_rfl

set_option maxRecDepth 100000 in
theorem lifted (os : Os) (started : os.Started) (H : Type) (enc : TypeId × Value → H) :
    ReturnsInHanded {} Try.checked os 10 .any (Rows.bloomSizesSpec.pre6 enc Try.prog Try.f10 Rows.bloomSizesRow.domain false) (Rows.bloomSizesSpec.post enc Try.prog Try.f10 false true false false) := by
  refine returnsInHanded_of_change_sized (C := Try.checked) own started (by kernel_rfl) Try.func10
    (ChangeSpec.witness6 (enc := enc) (C := Try.checked) false ⟨#[], #[.int .i64 0, .string ByteArray.empty, .int .i64 0], []⟩ 8 (by kernel_rfl) (by kernel_rfl) (by kernel_rfl) (by kernel_rfl)) ?_
  intro W base args ds gs before hval0 hW _ hsz0 _
  have hsz : (DataW.weightsEach Try.prog (Try.f10.params.toList ++ Rows.bloomSizesSpec.plain.varTypes Try.prog) (ds ++ gs)).all (· ≤ reachBytes) = true := hsz0
  clear hsz0
  have hval : ∀ (j : Nat) t v, Try.f10.params[j]? = some t → args[j]? = some v → Value.okWide Try.prog W .any base t v := hval0
  have hW' := hW
  obtain ⟨p, q, hA0, hV, rfl, hfz, hnd⟩ := hW
  have hA : DataW.TrodAll enc Try.prog W 0 (fun _ => true) true Try.f10.params.toList args.toList ds p := hA0
  rw [Try.params10] at hA hval hsz
  obtain ⟨v0, vs0, d0, ds0, p0, q0, hargs, rfl, rfl, h0, r0⟩ := trodAll_cons hA
  obtain ⟨v1, vs1, d1, ds1, p1, q1, rfl, rfl, rfl, h1, r1⟩ := trodAll_cons r0
  obtain ⟨v2, vs2, d2, ds2, p2, q2, rfl, rfl, rfl, h2, r2⟩ := trodAll_cons r1
  obtain ⟨rfl, rfl, rfl⟩ := trodAll_nil r2
  obtain rfl : args = #[v0, v1, v2] := by cases args; simp_all
  obtain ⟨rfl, rfl⟩ := trodVars_none hV
  obtain ⟨a0, rfl, rfl, rfl, w0⟩ := open_int Try.underlying3 (hval 0 3 v0 rfl rfl) h0
  obtain ⟨a1, rfl, rfl, rfl, w1⟩ := open_string Try.underlying9 (hval 1 9 v1 rfl rfl) h1
  have z1 : a1.size ≤ 140737488351232 := by
    have := sized_string hsz (j := 1) (t := 9) rfl rfl
    simpa [reachBytes] using this
  obtain ⟨a2, rfl, rfl, rfl, w2⟩ := open_int Try.underlying3 (hval 2 3 v2 rfl rfl) h2
  clear hA0 hval0
  refine (walk a0 a1 a2 w0 z1 w2 W).mono fun e W' ⟨he, bel⟩ => ?_
  subst he
  exact ⟨_, rfl, _, _, _, [], [], [], hW', trodAll_mk1 (shut_bool Try.underlying4 _), (trodAll_cons_mk (shut_int Try.underlying3 w0) (trodAll_cons_mk (shut_string Try.underlying9 w1) (trodAll_cons_mk (shut_int Try.underlying3 w2) trodAll_mk0))), rfl, bel.frame _, fun h => by cases h⟩

theorem over : Rows.bloomSizesRow.holds Try.pinned (OpenSpec.ofChange Rows.bloomSizesSpec) :=
  OpenClaim.holds_of_wide 10 Try.f10 rfl rfl rfl rfl rfl rfl rfl ⟨rfl, rfl, rfl, rfl, rfl⟩ rfl rfl rfl rfl rfl (by kernel_rfl) Try.func10 (by kernel_rfl)
    (of_decide_eq_true (by kernel_rfl)) (by unfold Func.isWrapper; first | (rw [if_pos (by decide +kernel)]; kernel_rfl) | (rw [if_neg (by decide +kernel)]; exact ⟨rfl, rfl⟩))
    (fun os started H enc _ => lifted os started H enc)

end Go.Proofs.Ytbipmeogcmmhhaa.BloomSizes
namespace Go.Proofs.Ytbipmeogcmmhhaa
theorem bloomSizes_holds : Rows.BloomSizesSaid := BloomSizes.over
#print axioms bloomSizes_holds
end Go.Proofs.Ytbipmeogcmmhhaa

