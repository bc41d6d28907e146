/-
  Layer 12: of no dag: Parents, Order. A row that may begin anywhere: moved on; out of an own row.
-/
import Derived.Test.YtabongfoeoideaaDga
import Derived.Test.YtabongfoeoideaaDge
namespace Go.Pal
open Go.RowKit
theorem QR.of_own {w : World} {t : TypeId} {base : Nat} {v : Value} {l : List ByteArray} (h : w.ownsRow base t 1 v l.length (l.map Value.string)) : QR w t base v l := by
  rcases h.2 with ⟨rfl, h0⟩ | ⟨g, cap, cur, rfl, hb, hh, r1, r2, r3, r4⟩
  · exact .inl ⟨rfl, List.eq_nil_of_length_eq_zero h0⟩
  · refine .inr ⟨g, 0, cap, cur, rfl, hb, hh, by omega, r1, r2, fun i hi => ?_⟩
    have e1 : cur.toList[i]? = (l.map Value.string)[i]? := by
      rw [← r4, List.getElem?_take_of_lt (by simpa using hi)]
    rw [Nat.zero_add, ← Array.getElem?_toList, e1, List.getElem?_map, List.getD_eq_getElem?_getD, List.getElem?_eq_getElem hi]; rfl
end Go.Pal
namespace Go.Proofs.Ytabongfoeoideaa
open Go.RowKit Go.Pal Go.Shelf
set_option linter.unusedVariables false
set_option maxHeartbeats 400000 in
theorem dparents_nil (w : World) {s : ByteArray} (hs : s.size ≤ maxLen) :
    Calls Try.prog 19 #[.pointer none, .string s] w fun e w' => ∃ v, e = .returned v ∧ w'.ownsRow w.heap.size 9 1 v 0 [] ∧ Below w.heap.size w w' := by
  have hl := lookNil w hs false
  rw [if_neg Bool.false_ne_true] at hl
  have HCP := Lib.hid (fun (W : World) => dcopied_own (w := W) (base := 0) (v := .slice none 0 0) (M := []) (World.ownsRow_nil _ _ _ _) (by simp) (fun s hs => by cases hs))
  go_enter Try.func19, Try.ntmps19
  go_wp2_with (first
    | (go_at_call 37; refine (dent_nil _).mono ?_; rintro e w' ⟨rfl, e9⟩; rw [e9]; clear e9 w')
    | (go_at_call 32; refine (HCP.out w).mono ?_; rintro e w1 ⟨v1, rfl, ho, hb⟩; obtain ⟨p1, c1, rfl, _⟩ := rowS_form ho; have HO := Lib.hid ho; have HB := Lib.hid hb; clear ho hb))
  go_ret
  exact ⟨_, rfl, HO.out, HB.out⟩
set_option maxHeartbeats 1000000 in
set_option maxRecDepth 100000 in
theorem dorder_nil (w : World) :
    Calls Try.prog 25 #[.pointer none] w fun e w' => ∃ v, e = .returned v ∧ w'.ownsRow w.heap.size 9 1 v 0 [] ∧ Below w.heap.size w w' := by
  have hmm := @run_makeMap Try.prog
  have hrg := fun (W : World) => run_range_nilMap (P := Try.prog) W 54 9 30 Try.underlying54
  have HS := Lib.hid (fun (W : World) => sort_call (w := W) (base := 0) (v := .slice none 0 0) (zs := []) (by simp) (World.ownsRow_nil _ _ _ _))
  have HC := Lib.hid (fun (W : World) => dchildren_any (w := W) (base := 0) (p := none) (m := none) (mv := fun _ => .slice none 0 0) (es := []) (.inl ⟨rfl, rfl, rfl⟩) ⟨fun e he => (by cases he), Nat.zero_le _, fun e he => (by cases he), fun e he => (by cases he), fun e he => (by cases he)⟩)
  have HCP := Lib.hid (fun (W : World) => dcopied_own (w := W) (base := 0) (v := .slice none 0 0) (M := []) (World.ownsRow_nil _ _ _ _) (by simp) (fun s hs => by cases hs))
  go_enter Try.func25, Try.ntmps25
  go_wp2_with (go_at_call 37; refine (dent_nil _).mono ?_; rintro e w' ⟨rfl, e9⟩; rw [e9]; clear e9 w')
  obtain ⟨W1, hW1⟩ : ∃ W1, W1 = w.alloc (.map #[] 0) := ⟨_, rfl⟩
  obtain ⟨W, hW⟩ : ∃ W, W = W1.alloc (.mapIter none 0 #[] 0) := ⟨_, rfl⟩
  have hnx := fun ty => run_next_nilMap (P := Try.prog) W1 ty 0 0 #[]
  have HB := Lib.hid (show Below w.heap.size w W by rw [hW, hW1]; exact ((Below.refl _ _).alloc (Nat.le_refl _) _).alloc (by simp) _)
  have hs1 : W1.heap.size = w.heap.size + 1 := by rw [hW1]; simp
  rw [← hW, hs1] at hnx
  rw [← hW1, ← hW]
  obtain ⟨r, hr⟩ : ∃ r, r = w.heap.size + 1 := ⟨_, rfl⟩
  rw [← hr] at hnx ⊢
  clear hs1 hr hW hW1 hrg hmm
  go_loopw [4, 18] (fun v4 _ wr => v4 = .slice none 0 0 ∧ wr = W) (fun _ _ _ => 0)
  case atStart => exact ⟨rfl, rfl⟩
  case round =>
    obtain ⟨rfl, hwr⟩ := hrel
    subst hwr
    go_wp2_with (first
      | (go_at_call 41; refine (HS.out _).mono ?_; rintro e w3 ⟨rfl, _, hg3⟩; have G3 := Lib.hid (HB.out.grown hg3 HB.out.size (fun j hj => by cases hj)); clear hg3)
      | (go_at_call 40; refine (HC.out w3).mono ?_; rintro e w4 ⟨K, f, cs, rfl, _, _, _, hb4⟩; have B4 := Lib.hid (G3.out.trans (hb4.mono G3.out.size)); clear hb4))
    go_loopw [4, 5] (fun v4 v5 wr => v4 = .slice none 0 0 ∧ v5 = .slice none 0 0 ∧ wr = w4) (fun _ _ _ => 0)
    case atStart => exact ⟨rfl, rfl, rfl⟩
    case round =>
      obtain ⟨rfl, rfl, hwr⟩ := hrel
      subst hwr
      go_wp2_with (go_at_call 32; refine (HCP.out _).mono ?_; rintro e w5 ⟨v5, rfl, ho5, hb5⟩; obtain ⟨p5, c5, rfl, _⟩ := rowS_form ho5; have HO5 := Lib.hid ho5; have HB5 := Lib.hid hb5; clear ho5 hb5)
      go_ret
      exact ⟨_, rfl, own_base HO5.out B4.out.size, B4.out.trans (HB5.out.mono B4.out.size)⟩
end Go.Proofs.Ytabongfoeoideaa
