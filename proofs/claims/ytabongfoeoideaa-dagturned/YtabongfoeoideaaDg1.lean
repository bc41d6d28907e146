/-
  Layer 12: a dag, as it lies in memory; contracts of New, entries, Has, Len, copied.
-/
import Derived.Test.YtabongfoeoideaaRf0
namespace Go.Pal
open Go.RowKit
/-- An entry: its id, its parents. -/
def lookE (es : List (ByteArray × List ByteArray)) (s : ByteArray) : Option (ByteArray × List ByteArray) := es.find? (fun e => decide (e.1 = s))
def mapE (es : List (ByteArray × List ByteArray)) (mv : ByteArray → Value) : ByteArray → Option Value := fun s => (lookE es s).map fun _ => mv s
theorem mapE_some (es : List (ByteArray × List ByteArray)) (mv : ByteArray → Value) (s : ByteArray) : (mapE es mv s).isSome = (lookE es s).isSome := by unfold mapE; cases lookE es s <;> rfl
end Go.Pal
namespace Go.Proofs.Ytabongfoeoideaa
open Go.RowKit Go.Pal
set_option linter.unusedVariables false

/-- A dag in memory: m its map, mv each entry's slice. -/
structure DagAt (w : World) (base G : Nat) (m : Option Nat) (mv : ByteArray → Value) (es : List (ByteArray × List ByteArray)) : Prop where
  blk : Blk w G 56 [.map m]
  empty : m = none → es = []
  map : ∀ b, m = some b → MapF Try.prog 9 w b es.length (mapE es mv) ∧ base ≤ b
  each : ∀ e ∈ es, w.ownsRow base 9 1 (mv e.1) e.2.length (e.2.map Value.string)
  ids : (es.map Prod.fst).Nodup
  gbase : base ≤ G
def DFoot (G : Nat) (m : Option Nat) (mv : ByteArray → Value) (es : List (ByteArray × List ByteArray)) (g : Nat) : Prop := g = G ∨ m = some g ∨ ∃ e ∈ es, (mv e.1).ownBlock = some g
theorem DagAt.keep {w w' : World} {base G : Nat} {m : Option Nat} {mv : ByteArray → Value} {es : List (ByteArray × List ByteArray)} (h : DagAt w base G m mv es) (hk : ∀ g, DFoot G m mv es g → w'.heap[g]? = w.heap[g]?) : DagAt w' base G m mv es :=
  ⟨(hk G (.inl rfl)).trans h.blk, h.empty, fun b hb => ⟨(h.map b hb).1.keep (hk b (.inr (.inl hb))), (h.map b hb).2⟩, fun e he => own_kept (h.each e he) (fun g hg => hk g (.inr (.inr ⟨e, he, hg⟩))), h.ids, h.gbase⟩
theorem DagAt.lt {w : World} {base G : Nat} {m : Option Nat} {mv : ByteArray → Value} {es : List (ByteArray × List ByteArray)} (h : DagAt w base G m mv es) {g : Nat} (hg : DFoot G m mv es g) : g < w.heap.size ∧ base ≤ g := by
  rcases hg with rfl | hm | ⟨e, he, hg⟩
  · exact ⟨h.blk.lt, h.gbase⟩
  · exact ⟨(h.map g hm).1.lt, (h.map g hm).2⟩
  · exact ⟨(own_lt (h.each e he) hg).1, (own_lt (h.each e he) hg).2.1⟩
theorem DagAt.below {w w' : World} {base G : Nat} {m : Option Nat} {mv : ByteArray → Value} {es : List (ByteArray × List ByteArray)} (h : DagAt w base G m mv es) {n : Nat} (hb : Below n w w') (hn : w.heap.size ≤ n) : DagAt w' base G m mv es :=
  h.keep fun g hg => hb.block g (Nat.lt_of_lt_of_le (h.lt hg).1 hn)
set_option maxHeartbeats 400000 in
theorem dnew_any (w : World) : Calls Try.prog 12 #[] w fun e w' => e = .returned (.pointer (some ⟨w.heap.size, 0, none⟩)) ∧ (∀ mv, DagAt w' w.heap.size w.heap.size none mv []) ∧ Below w.heap.size w w' := by
  go_enter Try.func12, Try.ntmps12
  go_wp2
  go_ret
  exact ⟨rfl, fun mv => ⟨Blk.new w _ [.map none], fun _ => rfl, fun b hb => (by cases hb), fun e he => (by cases he), List.nodup_nil, Nat.le_refl _⟩, (Below.refl _ _).alloc (Nat.le_refl _) _⟩
set_option maxHeartbeats 400000 in
theorem dent_nil (w : World) : Calls Try.prog 37 #[.pointer none] w fun e w' => e = .returned (.map none) ∧ w' = w := by
  go_enter Try.func37, Try.ntmps37
  go_wp2
  go_ret
  exact ⟨rfl, rfl⟩
set_option maxHeartbeats 400000 in
theorem dent_at {w : World} {G : Nat} {m : Option Nat} (h : w.cell? ⟨G, 0, none⟩ = some (.map m)) : Calls Try.prog 37 #[.pointer (some ⟨G, 0, none⟩)] w fun e w' => e = .returned (.map m) ∧ w' = w := by
  go_enter Try.func37, Try.ntmps37
  go_wp2
  go_ret
  exact ⟨rfl, rfl⟩
theorem zeroS (w : World) : (zeroValue 30).run Try.prog w = .ok (.slice none 0 0) w := by kernel_rfl
theorem DagAt.look {w : World} {base G : Nat} {m : Option Nat} {mv : ByteArray → Value} {es : List (ByteArray × List ByteArray)} (h : DagAt w base G m mv es) {s : ByteArray} (hs : s.size ≤ maxLen) (c : Bool) :
    (Instr.lookup 54 (.map m) (.string s) c).run Try.prog w = .ok (if c then .tuple #[(mapE es mv s).getD (.slice none 0 0), .bool (lookE es s).isSome] else (mapE es mv s).getD (.slice none 0 0)) w := by
  cases m with
  | none =>
    have he := h.empty rfl
    subst he
    have := Maps.look_nil (w := w) (t := 54) c (Maps.string_keyed Try.underlying9) Try.underlying54 (zeroS w) (WideMaps.keyOf_string_mk Try.underlying9 hs)
    rw [this]; cases c <;> rfl
  | some b =>
    have hm := (h.map b rfl).1
    cases c with
    | false => exact hm.lookup Try.underlying9 Try.underlying54 (zeroS w) hs
    | true =>
      have := hm.look_ok Try.underlying9 Try.underlying54 (zeroS w) hs
      rw [this, mapE_some]; rfl
set_option maxHeartbeats 400000 in
theorem dhas_at {w : World} {base G : Nat} {m : Option Nat} {mv : ByteArray → Value} {es : List (ByteArray × List ByteArray)} (h : DagAt w base G m mv es) {s : ByteArray} (hs : s.size ≤ maxLen) : Calls Try.prog 15 #[.pointer (some ⟨G, 0, none⟩), .string s] w fun e w' => e = .returned (.bool (lookE es s).isSome) ∧ w' = w := by
  have hl := h.look hs true
  have hc : w.cell? ⟨G, 0, none⟩ = some (.map m) := h.blk.cell 0
  rw [if_pos rfl] at hl
  clear h
  generalize (mapE es mv s).getD (.slice none 0 0) = x at *
  generalize (lookE es s).isSome = y at *
  go_enter Try.func15, Try.ntmps15
  go_wp2_with (go_at_call 37; refine (dent_at hc).mono ?_; rintro e w' ⟨rfl, e9⟩; rw [e9]; clear e9 w')
  go_ret
  exact ⟨rfl, rfl⟩
set_option maxHeartbeats 400000 in
theorem dlen_at {w : World} {base G : Nat} {m : Option Nat} {mv : ByteArray → Value} {es : List (ByteArray × List ByteArray)} (h : DagAt w base G m mv es) : Calls Try.prog 17 #[.pointer (some ⟨G, 0, none⟩)] w fun e w' => e = .returned (.int .i64 (es.length : Int)) ∧ w' = w := by
  have hc : w.cell? ⟨G, 0, none⟩ = some (.map m) := h.blk.cell 0
  have hl : ∀ ty, (Builtin.len_ #[54] ty #[.map m]).run Try.prog w = .ok (.int .i64 (es.length : Int)) w := by
    intro ty
    cases m with
    | none => rw [h.empty rfl]; exact Maps.len_nil Try.underlying54 ty
    | some b => exact (h.map b rfl).1.len Try.underlying54 ty
  clear h
  generalize (es.length : Int) = n at *
  go_enter Try.func17, Try.ntmps17
  go_wp2_with (go_at_call 37; refine (dent_at hc).mono ?_; rintro e w' ⟨rfl, e9⟩; rw [e9]; clear e9 w')
  go_ret
  exact ⟨rfl, rfl⟩
end Go.Proofs.Ytabongfoeoideaa
