/-
  The law's own model of a room: its row; find, missing.
-/
import Derived.Test.YtalpmnmpggljcaaWd2
import Derived.Test.YtalpmnmpggljcaaRf2
namespace Go.Pal
open Go.RowKit Go.Pal.Dk
/-- What the model has, with the slice that holds for what it waits. -/
structure Mo where
  x : Wt
  mv : Value
def Mo.cells (p : Mo) : List Value := [.string p.x.id, .string p.x.text, p.mv]
def cellsM : List Mo → List Value
  | [] => []
  | f :: r => f.cells ++ cellsM r
theorem cellsM_length : ∀ l : List Mo, (cellsM l).length = l.length * 3
  | [] => rfl
  | f :: r => by simp only [cellsM, Mo.cells, List.length_append, List.length_cons, List.length_nil, cellsM_length r]; omega
theorem cellsM_append : ∀ l m : List Mo, cellsM (l ++ m) = cellsM l ++ cellsM m
  | [], m => rfl
  | f :: r, m => by simp [cellsM, cellsM_append r m]
theorem cellsM_get : ∀ (l : List Mo) (i : Nat) (hi : i < l.length) (j : Nat), j < 3 → (cellsM l)[i * 3 + j]? = (l[i].cells)[j]?
  | f :: r, 0, _, j, hj => by
    simp only [cellsM, Nat.zero_mul, Nat.zero_add]
    rw [List.getElem?_append_left (by simp [Mo.cells]; omega)]; rfl
  | f :: r, i + 1, hi, j, hj => by
    simp only [cellsM]
    rw [List.getElem?_append_right (by simp [Mo.cells]; omega)]
    rw [show (i + 1) * 3 + j - f.cells.length = i * 3 + j by simp [Mo.cells]; omega]
    exact cellsM_get r i (by simpa using hi) j hj
theorem cellsM_take (l : List Mo) (k : Nat) : (cellsM l).take (k * 3) = cellsM (l.take k) := by
  by_cases h : k ≤ l.length
  · have e : cellsM l = cellsM (l.take k) ++ cellsM (l.drop k) := by rw [← cellsM_append, List.take_append_drop]
    rw [e, List.take_append_of_le_length (by rw [cellsM_length, List.length_take]; omega)]
    exact List.take_of_length_le (by rw [cellsM_length, List.length_take]; omega)
  · rw [List.take_of_length_le (by rw [cellsM_length]; omega), List.take_of_length_le (by omega)]
theorem cellsM_drop (l : List Mo) (k : Nat) (h : k ≤ l.length) : (cellsM l).drop (k * 3) = cellsM (l.drop k) := by
  have e : cellsM l = cellsM (l.take k) ++ cellsM (l.drop k) := by rw [← cellsM_append, List.take_append_drop]
  rw [e, List.drop_append_of_le_length (by rw [cellsM_length, List.length_take]; omega)]
  rw [List.drop_of_length_le (by rw [cellsM_length, List.length_take]; omega)]; rfl
def wsOf (ms : List Mo) : List Wt := ms.map Mo.x
theorem wsOf_length (ms : List Mo) : (wsOf ms).length = ms.length := by simp [wsOf]
theorem wsOf_get (ms : List Mo) (i : Nat) (hi : i < ms.length) : (wsOf ms)[i]'(by rw [wsOf_length]; exact hi) = ms[i].x := by simp [wsOf]
def notId (ws : List Wt) (s : ByteArray) : Bool := !ws.any (fun x => decide (x.id = s))
theorem findI_lt (ws : List Wt) (s : ByteArray) : findI ws s < 0 ↔ notId ws s = true := by
  unfold findI notId
  cases hf : findW ws s with
  | none =>
    have := findW_none hf
    simp; exact this
  | some i =>
    obtain ⟨h1, h2, _⟩ := findW_some hf
    constructor
    · intro h; have : ¬ ((i : Int) < 0) := by omega
      exact absurd h this
    · intro h
      simp at h
      exact absurd h2 (h _ (List.getElem_mem h1))
end Go.Pal
namespace Go.Proofs.Ytalpmnmpggljcaa
open Go.RowKit Go.Pal Go.Pal.Dk
set_option linter.unusedVariables false

structure ModAt (w : World) (base : Nat) (v : Value) (ms : List Mo) : Prop where
  row : w.ownsRow base 65 3 v ms.length (cellsM ms)
  each : ∀ p ∈ ms, w.ownsRow base 9 1 p.mv p.x.miss.length (p.x.miss.map Value.string)
theorem ModAt.keep {w w' : World} {base : Nat} {v : Value} {ms : List Mo} (h : ModAt w base v ms) (hk : ∀ g cur t, w.heap[g]? = some (.cells cur t (0, 0)) → base ≤ g → (t = 9 ∨ t = 65) → w'.heap[g]? = w.heap[g]?) : ModAt w' base v ms :=
  ⟨own_kept h.row (fun g hg => by obtain ⟨_, hb, cur, hc⟩ := own_lt h.row hg; exact hk g cur _ hc hb (.inr rfl)), fun p hp => own_kept (h.each p hp) (fun g hg => by obtain ⟨_, hb, cur, hc⟩ := own_lt (h.each p hp) hg; exact hk g cur _ hc hb (.inl rfl))⟩
theorem ModAt.below {w w' : World} {base : Nat} {v : Value} {ms : List Mo} (h : ModAt w base v ms) {n : Nat} (hb : Below n w w') (hn : w.heap.size ≤ n) : ModAt w' base v ms :=
  h.keep fun g cur t hc _ _ => hb.block g (Nat.lt_of_lt_of_le (Array.getElem?_eq_some_iff.1 hc).1 hn)
/-- The model lies apart from the room. -/
theorem ModAt.off {w w' : World} {base : Nat} {v : Value} {ms : List Mo} {b0 W places : Nat} {u : Value} {ws : List Wt} (h : ModAt w base v ms) (hw : WaitAt w b0 W places u ws) (ho : Off (WFoot W u ws) w w') : ModAt w' base v ms :=
  h.keep fun g cur t hc _ ht => ho.block g (Array.getElem?_eq_some_iff.1 hc).1 (by
    rintro (rfl | hv | ⟨x, hx, rfl⟩)
    · have := hw.blk
      unfold Blk at this
      rw [hc] at this
      injection this with this
      injection this with _ h3
      rcases ht with rfl | rfl <;> exact absurd h3 (by decide)
    · obtain ⟨_, _, cur', hc'⟩ := own_lt hw.row hv
      rw [hc] at hc'
      injection hc' with hc'
      injection hc' with _ h3
      rcases ht with rfl | rfl <;> exact absurd h3 (by decide)
    · obtain ⟨es, c, hm⟩ := (hw.maps x hx).1.obj
      rw [hc] at hm; cases hm)
theorem rowM_cells {w : World} {base g n cap : Nat} {ms : List Mo} (h : w.ownsRow base 65 3 (.slice (some ⟨g, 0, none⟩) n cap) n (cellsM ms)) (k : Nat) (hk : k < ms.length) :
    w.cell? ⟨g, k * 3, none⟩ = some (.string ms[k].x.id) ∧ w.cell? ⟨g, k * 3 + 1, none⟩ = some (.string ms[k].x.text) ∧ w.cell? ⟨g, k * 3 + 2, none⟩ = some ms[k].mv := by
  have hl := h.1
  rw [cellsM_length] at hl
  refine ⟨?_, ?_, ?_⟩
  · rw [(ownS_cell h (k * 3) (by omega)).1]; exact cellsM_get ms k hk 0 (by omega)
  · rw [(ownS_cell h (k * 3 + 1) (by omega)).1]; exact cellsM_get ms k hk 1 (by omega)
  · rw [(ownS_cell h (k * 3 + 2) (by omega)).1]; exact cellsM_get ms k hk 2 (by omega)
set_option maxHeartbeats 1000000 in
set_option maxRecDepth 100000 in
theorem lfind_any {w : World} {base : Nat} {v : Value} {ms : List Mo} (h : ModAt w base v ms) (s : ByteArray) :
    Calls Try.prog 38 #[v, .string s] w fun e w' => e = .returned (.int .i64 (findI (wsOf ms) s)) ∧ w' = w := by
  obtain ⟨p, cap, rfl, h1, h2, hp⟩ := rowS_form h.row
  have HR := Lib.hid h.row
  have HP := Lib.hid hp
  have HF := Lib.hid (fun (i : Nat) (h : findW (wsOf ms) s = some i) => findW_some h)
  have HN := Lib.hid (fun (h : findW (wsOf ms) s = none) => findW_none h)
  unfold maxLen at h2
  have hml : ms.length ≤ 9223372036854775807 := by omega
  clear h hp h1 h2
  go_enter Try.func38, Try.ntmps38
  go_wp2
  go_loop [5] (fun j => ∃ k : Nat, k ≤ ms.length ∧ j = .int .i64 k ∧ (∀ i (hi : i < k) (hl : i < ms.length), ms[i].x.id ≠ s)) (fun j => ms.length - (intOf j).toNat)
  case atStart => exact ⟨0, Nat.zero_le _, rfl, fun i hi => absurd hi (Nat.not_lt_zero i)⟩
  case round =>
    obtain ⟨k, hk, rfl, hno⟩ := hrel
    have HNO := Lib.hid hno
    clear hno
    by_cases hlt : k < ms.length
    · obtain ⟨g, rfl⟩ := HP.out (by omega)
      have c0 := (rowM_cells HR.out k hlt).1
      by_cases he : ms[k].x.id = s
      · have HFI := Lib.hid (show findI (wsOf ms) s = (k : Int) by
          unfold findI
          cases hf : findW (wsOf ms) s with
          | none => exact absurd he (HN.out hf _ (List.mem_map.2 ⟨_, List.getElem_mem hlt, rfl⟩))
          | some i =>
            obtain ⟨h1, h2, h3⟩ := HF.out i hf
            have h1' : i < ms.length := by rw [wsOf_length] at h1; exact h1
            have h2' : ms[i].x.id = s := by rw [← wsOf_get ms i h1']; exact h2
            have : i = k := by
              rcases Nat.lt_trichotomy i k with h | h | h
              · exact absurd h2' (HNO.out i h h1')
              · exact h
              · have := h3 k h; rw [wsOf_get ms k hlt] at this; exact absurd he this
            rw [this])
        rw [he] at c0
        have heq := beqWT (a := s)
        clear he
        go_wp2
        go_ret
        exact ⟨(congrArg (fun i => Ending.returned (.int .i64 i)) HFI.out).symm, rfl⟩
      · have hne := beqWF he
        have HNE := Lib.hid he
        clear he
        generalize hid : ms[k].x.id = id at *
        have HID := Lib.hid hid
        clear hid
        go_wp2
        go_round
        case rel =>
          refine ⟨k + 1, by omega, by go_num, fun i hi hl => ?_⟩
          by_cases e : i = k
          · subst e; rw [HID.out]; exact HNE.out
          · exact HNO.out i (by omega) hl
        case measure => simp [intOf]; omega
    · have HFI := Lib.hid (show findI (wsOf ms) s = -1 by
        unfold findI
        cases hf : findW (wsOf ms) s with
        | none => rfl
        | some i =>
          obtain ⟨h1, h2, h3⟩ := HF.out i hf
          have h1' : i < ms.length := by rw [wsOf_length] at h1; exact h1
          have h2' : ms[i].x.id = s := by rw [← wsOf_get ms i h1']; exact h2
          exact absurd h2' (HNO.out i (by omega) h1'))
      go_wp2
      go_ret
      exact ⟨(congrArg (fun i => Ending.returned (.int .i64 i)) HFI.out).symm, rfl⟩
end Go.Proofs.Ytalpmnmpggljcaa
