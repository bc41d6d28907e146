/-
  P13.1: of no room nothing comes: for every act.
  No condition beside the form's own.
-/
import Derived.Test.YtalpmnmpggljcaaWa6
import Derived.Test.YtalpmnmpggljcaaGr
namespace Go.Proofs.Ytalpmnmpggljcaa.WaitNone
open Go.ChangeShapes Go.WideShapes Go.ChangeAt Go.RowKit Go.Pal
open Go.ChangeMaps (open_string shut_string)
set_option linter.unusedVariables false

/-- The act stands in its block, and all that was there is there. -/
def At (w w1 : World) (k : Int) (id tx : ByteArray) (v : Value) : Prop := Below w.heap.size w w1 ∧ Blk w1 w.heap.size 60 [.int .i64 k, .string id, .string tx, v]
theorem At.next {w w1 w2 : World} {k : Int} {id tx : ByteArray} {v : Value} (h : At w w1 k id tx v) (hb : Below w1.heap.size w1 w2) : At w w2 k id tx v := ⟨h.1.trans (hb.mono h.1.size), h.2.below hb h.2.lt⟩
theorem one_act {w : World} {c : Wc} (hc : WcOk w c) : WcsAt (w.alloc (.cells c.cells.toArray 60)) (some ⟨w.heap.size, 0, none⟩) [c] := by
  refine ⟨by simp [maxLen], fun c' hc2 => ?_, .inr ⟨w.heap.size, 0, rfl, by simp, fun i c' hi j hj => ?_⟩⟩
  · rw [List.mem_singleton.1 hc2]; exact hc.below ((Below.refl _ _).alloc (Nat.le_refl _) _)
  · have hi2 := (List.getElem?_eq_some_iff.1 hi).1
    obtain rfl : i = 0 := by simp only [List.length_singleton] at hi2; omega
    obtain rfl : c' = c := by have h9 : some c = some c' := hi; exact (Option.some.inj h9).symm
    have := (Blk.new w 60 c'.cells).cell j
    rw [Nat.zero_mul, Nat.zero_add]; exact this
set_option maxHeartbeats 1000000 in
set_option maxRecDepth 100000 in
theorem walk (c : Wc) (w : World) (hc : WcOk w c) :
    Calls Try.prog 12 #[c.val] w fun e w' => e = .returned (.bool true) ∧ Below w.heap.size w w' := by
  obtain ⟨k, id, tx, ms, a, cap⟩ := c
  have HG := Lib.hid (show Calls Try.prog 34 #[.slice (some ⟨(w.alloc (.cells #[.int .i64 k, .string id, .string tx, .slice a ms.length cap] 60)).heap.size, 0, none⟩) 1 1] ((w.alloc (.cells #[.int .i64 k, .string id, .string tx, .slice a ms.length cap] 60)).alloc (.cells #[.int .i64 k, .string id, .string tx, .slice a ms.length cap] 60)) fun e w' => e = .returned (.bool (greatWc [⟨k, id, tx, ms, a, cap⟩])) ∧ w' = ((w.alloc (.cells #[.int .i64 k, .string id, .string tx, .slice a ms.length cap] 60)).alloc (.cells #[.int .i64 k, .string id, .string tx, .slice a ms.length cap] 60)) from greatWc_any _ (some ⟨(w.alloc (.cells #[.int .i64 k, .string id, .string tx, .slice a ms.length cap] 60)).heap.size, 0, none⟩) 1 [⟨k, id, tx, ms, a, cap⟩] (one_act (hc.below ((Below.refl _ _).alloc (Nat.le_refl _) _))))
  have h0 : At w (w.alloc (.cells #[.int .i64 k, .string id, .string tx, .slice a ms.length cap] 60)) k id tx (.slice a ms.length cap) := ⟨(Below.refl _ _).alloc (Nat.le_refl _) _, Blk.new w _ [.int .i64 k, .string id, .string tx, .slice a ms.length cap]⟩
  have HX := Lib.hid (show At w ((w.alloc (.cells #[.int .i64 k, .string id, .string tx, .slice a ms.length cap] 60)).alloc (.cells #[.int .i64 k, .string id, .string tx, .slice a ms.length cap] 60)) k id tx (.slice a ms.length cap) from h0.next ((Below.refl _ _).alloc (Nat.le_refl _) _))
  have hz : (w.alloc (.cells #[.int .i64 k, .string id, .string tx, .slice a ms.length cap] 60)).heap.size = w.heap.size + 1 := by simp
  rw [hz] at HG
  clear hc h0 hz
  unfold Wc.val Wc.cells
  simp only []
  generalize greatWc [⟨k, id, tx, ms, a, cap⟩] = gr at *
  cases gr with
  | true =>
    go_enter Try.func12, Try.ntmps12
    go_wp2_with (first | (go_at_call 34; refine HG.out.mono ?_; rintro e w1 ⟨rfl, rfl⟩) | (go_at_call 35; refine (awake13 _).mono ?_; rintro e w2 ⟨rfl, b2⟩))
    go_ret
    exact ⟨rfl, (HX.out.next b2).1⟩
  | false =>
    have HWX := Lib.hid (show ∃ wx, wx = ((w.alloc (.cells #[.int .i64 k, .string id, .string tx, .slice a ms.length cap] 60)).alloc (.cells #[.int .i64 k, .string id, .string tx, .slice a ms.length cap] 60)) from ⟨_, rfl⟩)
    go_enter Try.func12, Try.ntmps12
    go_wp2_with (first
      | (go_at_call 34; refine HG.out.mono ?_; rintro e w1 ⟨rfl, hw1⟩; rw [← hw1] at HX; clear hw1; have x1 := HX.out.2.cell 1; have x2 := HX.out.2.cell 2; have x3 := HX.out.2.cell 3)
      | (go_at_call 37; refine (wput_nil _ _ _ _).mono ?_; rintro e w2 ⟨rfl, rfl⟩)
      | (go_at_call 40; refine (wcome_nil _ _).mono ?_; rintro e w2 ⟨rfl, rfl⟩)
      | (go_at_call 42; refine (wdrop_nil _ _).mono ?_; rintro e w2 ⟨rfl, b2⟩; have HX := Lib.hid (HX.out.next b2); clear b2; have x1 := HX.out.2.cell 1)
      | (go_at_call 44; refine (whas_nil _ _).mono ?_; rintro e w3 ⟨rfl, b2⟩; have HX := Lib.hid (HX.out.next b2); clear b2)
      | (go_at_call 45; refine (wmissing_nil _).mono ?_; rintro e w4 ⟨⟨p4, c4, rfl⟩, b2⟩; have HX := Lib.hid (HX.out.next b2); clear b2)
      | (go_at_call 43; refine (wlen_nil _).mono ?_; rintro e w5 ⟨rfl, rfl⟩)
      | (go_at_call 35; refine (awake13 _).mono ?_; rintro e w6 ⟨rfl, b2⟩))
    go_ret
    exact ⟨rfl, (HX.out.next b2).1⟩

theorem own : ownKnob Try.prog.godebug = none := by kernel_rfl
theorem laidOut : laidOutB Try.prog = true := by kernel_rfl

set_option maxRecDepth 100000 in
theorem lifted (os : Os) (started : os.Started) (H : Type) (enc : TypeId × Value → H) :
    ReturnsInHanded {} Try.checked os 12 .any (Rows.waitNoneSpec.pre6 enc Try.prog Try.f12 Rows.waitNoneRow.domain false) (Rows.waitNoneSpec.post enc Try.prog Try.f12 false true false false) := by
  refine returnsInHanded_of_change_sized (C := Try.checked) own started (by kernel_rfl) Try.func12
    (ChangeSpec.witness6 (enc := enc) (C := Try.checked) false ⟨#[], #[.agg #[.int .i64 0, .string ByteArray.empty, .string ByteArray.empty, .slice none 0 0]], []⟩ 8 (by kernel_rfl) (by kernel_rfl) (by kernel_rfl) (by kernel_rfl)) ?_
  intro W base args ds gs before hval0 hW _ hsz0 _
  have hsz : (DataW.weightsEach Try.prog (Try.f12.params.toList ++ Rows.waitNoneSpec.plain.varTypes Try.prog) (ds ++ gs)).all (· ≤ reachBytes) = true := hsz0
  clear hsz0
  have hval : ∀ (j : Nat) t v, Try.f12.params[j]? = some t → args[j]? = some v → Value.okWide Try.prog W .any base t v := hval0
  have hW' := hW
  obtain ⟨p, q, hA0, hV, rfl, hfz, hnd⟩ := hW
  have hA : DataW.TrodAll enc Try.prog W 0 (fun _ => true) true Try.f12.params.toList args.toList ds p := hA0
  rw [Try.params12] at hA hval hsz
  obtain ⟨v0, vs0, d0, ds0, p0, q0, hargs, rfl, rfl, h0, r0⟩ := trodAll_cons hA
  obtain ⟨rfl, rfl, rfl⟩ := trodAll_nil r0
  obtain rfl : args = #[v0] := by cases args; simp_all
  obtain ⟨rfl, rfl⟩ := trodVars_none hV
  have k0 := h0
  have lt0 : ∀ x ∈ p0, x.block < W.heap.size := by obtain ⟨m, hm⟩ := k0; exact DataW.trod_lt m _ _ _ hm
  obtain ⟨c0, rfl, i0⟩ := open_wc (hval 0 60 v0 rfl rfl) h0 (lo_each hsz (j := 0) rfl rfl)
  clear hA0 hval0
  refine (walk c0  W i0).mono fun e W' ⟨he, bel⟩ => ?_
  subst he
  exact ⟨_, rfl, _, _, _, [], _, [], hW', trodAll_mk1 (shut_bool Try.underlying4 _), (trodAll_cons_mk (Below.trod laidOut (by kernel_rfl) (of_decide_eq_true (by kernel_rfl)) k0 bel lt0) trodAll_mk0), rfl, bel.frame _, fun h => by cases h⟩

theorem over : Rows.waitNoneRow.holds Try.pinned (OpenSpec.ofChange Rows.waitNoneSpec) :=
  OpenClaim.holds_of_wide 12 Try.f12 rfl rfl rfl rfl rfl rfl rfl ⟨rfl, rfl, rfl, rfl, rfl⟩ rfl rfl rfl rfl rfl (by kernel_rfl) Try.func12 (by kernel_rfl)
    (of_decide_eq_true (by kernel_rfl)) (by unfold Func.isWrapper; first | (rw [if_pos (by decide +kernel)]; kernel_rfl) | (rw [if_neg (by decide +kernel)]; exact ⟨rfl, rfl⟩))
    (fun os started H enc _ => lifted os started H enc)

end Go.Proofs.Ytalpmnmpggljcaa.WaitNone
namespace Go.Proofs.Ytalpmnmpggljcaa
theorem waitNone_holds : Rows.WaitNoneSaid := WaitNone.over
#print axioms waitNone_holds
end Go.Proofs.Ytalpmnmpggljcaa

