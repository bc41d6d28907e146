/-
  The document's own of layer 12: Find, Parents.
-/
import Derived.Test.YtabongfoeoideaaDgm
namespace Go.Pal
open Go.RowKit
set_option linter.unusedVariables false
theorem look_first {es : List (ByteArray × List ByteArray)} {s : ByteArray} {i : Nat} (hi : i < es.length) (h : es[i].1 = s) (hno : ∀ j (hj : j < i), (es[j]'(by omega)).1 ≠ s) : lookE es s = some es[i] := by
  unfold lookE
  induction es generalizing i with
  | nil => cases hi
  | cons e r ih =>
    rw [List.find?_cons]
    cases i with
    | zero => have h0 : e.1 = s := h
              rw [decide_eq_true h0]; rfl
    | succ k =>
      have h0 := hno 0 (by omega)
      rw [decide_eq_false (show ¬ e.1 = s from h0)]
      exact ih (by simpa using hi) h (fun j hj => hno (j + 1) (by omega))
theorem look_no {es : List (ByteArray × List ByteArray)} {s : ByteArray} (h : ∀ j (hj : j < es.length), (es[j]).1 ≠ s) : lookE es s = none := by
  unfold lookE
  rw [List.find?_eq_none]
  intro e he
  obtain ⟨j, hj, rfl⟩ := List.mem_iff_getElem.1 he
  simpa using h j hj
end Go.Pal
namespace Go.Proofs.Ytabongfoeoideaa
open Go.RowKit Go.Pal Go.Shelf
set_option linter.unusedVariables false
def esEn (l : List En) : List (ByteArray × List ByteArray) := l.map (fun c => entOf c.id c.par)
theorem esEn_len (l : List En) : (esEn l).length = l.length := by simp [esEn]
theorem esEn_get (l : List En) (i : Nat) (hi : i < l.length) : (esEn l)[i]'(by rw [esEn_len]; exact hi) = entOf l[i].id l[i].par := by simp [esEn]
theorem esEn_append (l m : List En) : esEn (l ++ m) = esEn l ++ esEn m := by simp [esEn]
/-- What Find answers. -/
def FoundAt (l : List En) (s : ByteArray) (n : Int) : Prop := ((lookE (esEn l) s).isSome = false ∧ n = -1) ∨ ∃ i, ∃ hi : i < l.length, n = i ∧ l[i].id = s ∧ lookE (esEn l) s = some (entOf l[i].id l[i].par)
theorem cells_en {w : World} {a : Option Addr} {l : List En} (h : EnsAt w a l) {k : Nat} (hk : k < l.length) : ∃ b off, a = some ⟨b, off, none⟩ ∧ b < w.heap.size ∧ w.cell? ⟨b, off + k * 2, none⟩ = some (.string l[k].id) ∧ w.cell? ⟨b, off + k * 2 + 1, none⟩ = some (.slice l[k].at_ l[k].par.length l[k].cap) := by
  obtain ⟨b, off, e, hb, hc⟩ := h.at_ hk
  exact ⟨b, off, e, hb, hc 0 (by omega), hc 1 (by omega)⟩
set_option maxHeartbeats 1000000 in
set_option maxRecDepth 100000 in
theorem rfind_any {w : World} {a : Option Addr} {cap : Nat} {l : List En} (h : EnsAt w a l) (s : ByteArray) :
    Calls Try.prog 16 #[.slice a l.length cap, .string s] w fun e w' => (∃ n, e = .returned (.int .i64 n) ∧ FoundAt l s n) ∧ w' = w := by
  have HC := Lib.hid (fun k hk => cells_en (k := k) h hk)
  have hlen := h.len
  unfold maxLen at hlen
  have HY := Lib.hid (fun (i : Nat) (hi : i < l.length) (hs : l[i].id = s) (hno : ∀ j (hj : j < i), (l[j]'(by omega)).id ≠ s) => show FoundAt l s i from .inr ⟨i, hi, rfl, hs, by
    have := look_first (es := esEn l) (s := s) (i := i) (by rw [esEn_len]; exact hi) (by rw [esEn_get l i hi]; exact hs) (fun j hj => by rw [esEn_get l j (by omega)]; exact hno j hj)
    rw [this, esEn_get l i hi]⟩)
  have HN := Lib.hid (fun (hno : ∀ j (hj : j < l.length), (l[j]).id ≠ s) => show FoundAt l s (-1) from .inl ⟨by
    rw [look_no (fun j hj => by
      have hj2 : j < l.length := by rw [esEn_len] at hj; exact hj
      rw [esEn_get l j hj2]; exact hno j hj2)]; rfl, rfl⟩)
  clear h
  go_enter Try.func16, Try.ntmps16
  go_wp2
  go_loop [5] (fun j => ∃ k : Nat, k ≤ l.length ∧ j = .int .i64 k ∧ (∀ i (hi : i < k) (hl : i < l.length), l[i].id ≠ s)) (fun j => l.length - (intOf j).toNat)
  case atStart => exact ⟨0, Nat.zero_le _, rfl, fun i hi => absurd hi (Nat.not_lt_zero i)⟩
  case round =>
    obtain ⟨k, hk, rfl, hno⟩ := hrel
    have HNO := Lib.hid hno
    clear hno
    by_cases hlt : k < l.length
    · obtain ⟨b, off, rfl, _, c0, _⟩ := HC.out k hlt
      by_cases he : l[k].id = s
      · have HF := Lib.hid (HY.out k hlt he (fun j hj => HNO.out j hj (by omega)))
        rw [he] at c0
        have heq := beqWT (a := s)
        clear he
        go_wp2
        go_ret
        exact ⟨⟨_, rfl, HF.out⟩, rfl⟩
      · have hne := beqWF he
        have HNE := Lib.hid he
        clear he
        generalize hid : l[k].id = id at *
        have HID := Lib.hid hid
        clear hid
        go_wp2
        go_round
        case rel =>
          refine ⟨k + 1, by omega, by go_num, fun i hi hl => ?_⟩
          by_cases e : i = k
          · subst e; rw [HID.out]; exact HNE.out
          · exact HNO.out i (by omega) hl
        case measure => simp [intOf]; omega
    · have HF := Lib.hid (HN.out (fun j hj => HNO.out j (by omega) hj))
      go_wp2
      go_ret
      exact ⟨⟨_, rfl, HF.out⟩, rfl⟩
/-- Find, by whether it is there. -/
theorem rfind_no {w : World} {a : Option Addr} {cap : Nat} {l : List En} (h : EnsAt w a l) {s : ByteArray} (hs : (lookE (esEn l) s).isSome = false) :
    Calls Try.prog 16 #[.slice a l.length cap, .string s] w fun e w' => e = .returned (.int .i64 (-1)) ∧ w' = w := by
  refine (rfind_any h s).mono ?_
  rintro e w' ⟨⟨n, rfl, hf⟩, rfl⟩
  rcases hf with ⟨_, rfl⟩ | ⟨i, hi, _, _, hl⟩
  · exact ⟨rfl, rfl⟩
  · rw [hl] at hs; cases hs
theorem rfind_yes {w : World} {a : Option Addr} {cap : Nat} {l : List En} (h : EnsAt w a l) {s : ByteArray} (hs : (lookE (esEn l) s).isSome = true) :
    Calls Try.prog 16 #[.slice a l.length cap, .string s] w fun e w' => (∃ i, ∃ hi : i < l.length, e = .returned (.int .i64 (i : Nat)) ∧ l[i].id = s ∧ parE (esEn l) s = l[i].par) ∧ w' = w := by
  refine (rfind_any h s).mono ?_
  rintro e w' ⟨⟨n, rfl, hf⟩, rfl⟩
  rcases hf with ⟨h0, _⟩ | ⟨i, hi, rfl, h1, hl⟩
  · rw [hs] at h0; cases h0
  · exact ⟨⟨i, hi, rfl, h1, by unfold parE; rw [hl]; rfl⟩, rfl⟩
set_option maxHeartbeats 1000000 in
set_option maxRecDepth 100000 in
theorem rparents_any {w W : World} {a : Option Addr} {cap : Nat} {l : List En} (h : EnsAt w a l) (hW : Below w.heap.size w W) (s : ByteArray) :
    Calls Try.prog 20 #[.slice a l.length cap, .string s] W fun e w' => (∃ p c, e = .returned (.slice p (parE (esEn l) s).length c) ∧ StrRow w p (parE (esEn l) s) ∧ (p = none → c = 0)) ∧ w' = W := by
  cases ht : (lookE (esEn l) s).isSome with
  | false =>
    have HF := Lib.hid (rfind_no (cap := cap) (h.below hW) ht)
    have HP := Lib.hid (show parE (esEn l) s = [] by unfold parE; cases hl : lookE (esEn l) s with
      | none => rfl
      | some e => rw [hl] at ht; cases ht)
    clear h ht hW
    go_enter Try.func20, Try.ntmps20
    go_wp2_with (go_at_call 16; refine HF.out.mono ?_; rintro e w' ⟨rfl, e9⟩; rw [e9]; clear e9 w')
    go_ret
    rw [HP.out]
    exact ⟨⟨none, 0, rfl, .inl rfl, fun _ => rfl⟩, rfl⟩
  | true =>
    have HF := Lib.hid (rfind_yes (cap := cap) (h.below hW) ht)
    have HC := Lib.hid (fun k hk => cells_en (k := k) (h.below hW) hk)
    have HK := Lib.hid (fun k (hk : k < l.length) => show StrRow w l[k].at_ l[k].par ∧ (l[k].at_ = none → l[k].cap = 0) from ⟨(h.ok _ (List.getElem_mem hk)).par.row, (h.ok _ (List.getElem_mem hk)).nil⟩)
    have hlen := h.len
    unfold maxLen at hlen
    have HA := Lib.hid (show ∀ i (hi : i < l.length), ∃ b off, a = some ⟨b, off, none⟩ ∧ W.cell? ⟨b, off + i * 2 + 1, none⟩ = some (.slice l[i].at_ l[i].par.length l[i].cap) from fun i hi => by
      obtain ⟨b, off, e, _, _, c1⟩ := HC.out i hi
      exact ⟨b, off, e, c1⟩)
    clear h ht HC hW
    go_enter Try.func20, Try.ntmps20
    go_wp2_with (go_at_call 16; refine HF.out.mono ?_; rintro e w' ⟨⟨i, hi, rfl, _, hp⟩, e9⟩; rw [e9]; clear e9 w'; have HP := Lib.hid hp; clear hp; obtain ⟨b, off, e8, c1⟩ := HA.out i hi; have i0 : ¬ ((i : Int) < 0) := (by omega); have i2 : (0 : Int) ≤ (i : Int) := (by omega); have i1 : (i : Int) < (l.length : Int) := (by omega); subst e8)
    go_ret
    rw [HP.out]
    exact ⟨⟨_, _, rfl, (HK.out i hi).1, (HK.out i hi).2⟩, rfl⟩
end Go.Proofs.Ytabongfoeoideaa
