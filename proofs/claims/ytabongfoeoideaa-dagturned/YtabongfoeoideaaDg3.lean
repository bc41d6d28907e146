/-
  Layer 12: contract of Parents; of no dag.
-/
import Derived.Test.YtabongfoeoideaaDg2
namespace Go.Pal
open Go.RowKit
def parE (es : List (ByteArray × List ByteArray)) (s : ByteArray) : List ByteArray := match lookE es s with | none => [] | some e => e.2
theorem lookE_some {es : List (ByteArray × List ByteArray)} {s : ByteArray} {e : ByteArray × List ByteArray} (h : lookE es s = some e) : e ∈ es ∧ e.1 = s := by
  unfold lookE at h
  exact ⟨List.mem_of_find?_eq_some h, by have := List.find?_some h; simpa using this⟩
end Go.Pal
namespace Go.Proofs.Ytabongfoeoideaa
open Go.RowKit Go.Pal
set_option linter.unusedVariables false

/-- What the look-up of an id brings is a row of its parents. -/
theorem DagAt.par {w : World} {base G : Nat} {m : Option Nat} {mv : ByteArray → Value} {es : List (ByteArray × List ByteArray)} (h : DagAt w base G m mv es) (s : ByteArray) : ∃ p cap, (mapE es mv s).getD (.slice none 0 0) = .slice p (parE es s).length cap ∧ StrRow w p (parE es s) := by
  unfold mapE parE
  cases he : lookE es s with
  | none => exact ⟨none, 0, rfl, .inl rfl⟩
  | some e =>
    obtain ⟨hm, rfl⟩ := lookE_some he
    obtain ⟨p, cap, hv, hr⟩ := own_texts (h.each e hm)
    exact ⟨p, cap, hv, hr⟩
set_option maxHeartbeats 400000 in
theorem dparents_at {w : World} {base G : Nat} {m : Option Nat} {mv : ByteArray → Value} {es : List (ByteArray × List ByteArray)} (h : DagAt w base G m mv es) {s : ByteArray} (hs : s.size ≤ maxLen) (hl : (parE es s).length ≤ 1000000) (hz : ∀ x ∈ parE es s, x.size ≤ 281474976710656) :
    Calls Try.prog 19 #[.pointer (some ⟨G, 0, none⟩), .string s] w fun e w' => ∃ v, e = .returned v ∧ w'.ownsRow w.heap.size 9 1 v (parE es s).length ((parE es s).map Value.string) ∧ Below w.heap.size w w' := by
  have hk := h.look hs false
  have hc : w.cell? ⟨G, 0, none⟩ = some (.map m) := h.blk.cell 0
  obtain ⟨p, cap, hv, hr⟩ := h.par s
  simp only [Bool.false_eq_true, if_false, hv] at hk
  have HCP := Lib.hid (dcopied_any (cap := cap) hr hl hz)
  clear h hv hr hl hz
  generalize parE es s = M at *
  go_enter Try.func19, Try.ntmps19
  go_wp2_with (first
    | (go_at_call 37; refine (dent_at hc).mono ?_; rintro e w' ⟨rfl, e9⟩; rw [e9]; clear e9 w')
    | (go_at_call 32; refine HCP.out.mono ?_; rintro e w1 ⟨v1, rfl, ho, hb⟩; obtain ⟨p1, c1, rfl, _⟩ := rowS_form ho; have HO := Lib.hid ho; have HB := Lib.hid hb; clear ho hb))
  go_ret
  exact ⟨_, rfl, HO.out, HB.out⟩
theorem lookNil (w : World) {s : ByteArray} (hs : s.size ≤ maxLen) (c : Bool) : (Instr.lookup 54 (.map none) (.string s) c).run Try.prog w = .ok (if c then .tuple #[.slice none 0 0, .bool false] else .slice none 0 0) w :=
  Maps.look_nil (w := w) (t := 54) c (Maps.string_keyed Try.underlying9) Try.underlying54 (zeroS w) (WideMaps.keyOf_string_mk Try.underlying9 hs)
set_option maxHeartbeats 400000 in
theorem dhas_nil (w : World) {s : ByteArray} (hs : s.size ≤ maxLen) : Calls Try.prog 15 #[.pointer none, .string s] w fun e w' => e = .returned (.bool false) ∧ w' = w := by
  have hl := lookNil w hs true
  rw [if_pos rfl] at hl
  go_enter Try.func15, Try.ntmps15
  go_wp2_with (go_at_call 37; refine (dent_nil _).mono ?_; rintro e w' ⟨rfl, e9⟩; rw [e9]; clear e9 w')
  go_ret
  exact ⟨rfl, rfl⟩
set_option maxHeartbeats 400000 in
theorem dlen_nil (w : World) : Calls Try.prog 17 #[.pointer none] w fun e w' => e = .returned (.int .i64 0) ∧ w' = w := by
  have hl := fun ty => Maps.len_nil (P := Try.prog) (w := w) (t := 54) Try.underlying54 ty
  go_enter Try.func17, Try.ntmps17
  go_wp2_with (go_at_call 37; refine (dent_nil _).mono ?_; rintro e w' ⟨rfl, e9⟩; rw [e9]; clear e9 w')
  go_ret
  exact ⟨rfl, rfl⟩
end Go.Proofs.Ytabongfoeoideaa
