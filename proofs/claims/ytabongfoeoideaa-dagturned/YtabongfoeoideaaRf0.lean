/-
  The document's own: Has, Same; the law's without. Rows of one's own, a cell set.
-/
import Derived.Test.YtabongfoeoideaaRs0
import Derived.Test.YtabongfoeoideaaWa5
import Derived.Sort.Walk0
import Derived.Deep.QuietTactic
import Derived.BigQuiet
namespace Go.Proofs.Ytabongfoeoideaa
open Go.RowKit Go.Pal Go.Pal.Dk Go.Sort
set_option linter.unusedVariables false

theorem r_less {a b : ByteArray} (h : ltB a b) : Op.bytesLess a.toList b.toList = true := by
  rw [bytesLess_eq, ByteArray.toList_eq, ByteArray.toList_eq]; exact decide_eq_true h
theorem r_not_less {a b : ByteArray} (h : ¬ ltB a b) : Op.bytesLess a.toList b.toList = false := by
  rw [bytesLess_eq, ByteArray.toList_eq, ByteArray.toList_eq]; exact decide_eq_false h
theorem ownS_set {w : World} {base size : Nat} {t : TypeId} {g n cap : Nat} {l : List Value} (h : w.ownsRow base t size (.slice (some ⟨g, 0, none⟩) n cap) n l) (k : Nat) (x : Value) : (w.setCell ⟨g, k, none⟩ x).ownsRow base t size (.slice (some ⟨g, 0, none⟩) n cap) n (l.set k x) := by
  refine ⟨by simpa using h.1, .inr ?_⟩
  rcases h.2 with ⟨h1, _⟩ | ⟨g', cap', cur, e, hb, hh, h3, h4, h5, ht⟩
  · cases h1
  · cases e
    refine ⟨g, cap, cur.setIfInBounds k x, rfl, hb, ?_, h3, h4, by simpa using h5, ?_⟩
    · simp [World.setCell, Array.getElem?_modify, hh]
    · rw [← ht, Array.toList_setIfInBounds, List.take_set]
/-- A row of texts of one's own, read as one that came in. -/
theorem own_str {w : World} {base n cap : Nat} {t : TypeId} {p : Option Addr} {l : List ByteArray} (h : w.ownsRow base t 1 (.slice p n cap) n (l.map Value.string)) : n = l.length ∧ StrRow w p l := by
  have hn : n = l.length := by have := h.1; simpa using this.symm
  refine ⟨hn, ?_⟩
  rcases h.2 with ⟨e, h0⟩ | ⟨g, cap', cur, e, hb, hh, h1, h2, h3, h4⟩
  · exact .inl (List.eq_nil_of_length_eq_zero (by omega))
  · cases e
    refine .inr ⟨g, 0, rfl, (Array.getElem?_eq_some_iff.1 hh).1, fun i hi => ?_⟩
    have := (ownS_cell h i (by omega)).1
    rw [Nat.zero_add, this, List.getElem?_map, List.getElem?_eq_getElem hi, List.getD_eq_getElem?_getD, List.getElem?_eq_getElem hi]; rfl
theorem own_texts {w : World} {base n : Nat} {t : TypeId} {v : Value} {l : List ByteArray} (h : w.ownsRow base t 1 v n (l.map Value.string)) : ∃ p cap, v = .slice p l.length cap ∧ StrRow w p l := by
  obtain ⟨p, cap, rfl, _⟩ := rowS_form h
  obtain ⟨rfl, hr⟩ := own_str h
  exact ⟨p, cap, rfl, hr⟩
theorem memB_take (l : List ByteArray) (k : Nat) (hk : k < l.length) (s : ByteArray) : memB (l.take (k + 1)) s = (memB (l.take k) s || decide (l[k] = s)) := by
  unfold memB; rw [List.take_succ_eq_append_getElem hk, List.any_append]; simp only [List.any_cons, List.any_nil, Bool.or_false]
set_option maxHeartbeats 400000 in
set_option maxRecDepth 100000 in
theorem rhas_any {w : World} {a : Option Addr} {cap : Nat} {l : List ByteArray} (h : StrRow w a l) (hl : l.length ≤ maxLen) (s : ByteArray) :
    Calls Try.prog 28 #[.slice a l.length cap, .string s] w fun e w' => e = .returned (.bool (memB l s)) ∧ w' = w := by
  have HR := Lib.hid (fun h0 => sRow_some h h0)
  have HT := Lib.hid (fun k hk => memB_take l k hk s)
  have HY := Lib.hid (fun k (hk : k < l.length) (e : l[k] = s) => memB_iff.2 (show s ∈ l from e ▸ List.getElem_mem hk))
  unfold maxLen at hl
  clear h
  go_enter Try.func28, Try.ntmps28
  go_wp2
  go_loop [5] (fun j => ∃ k : Nat, k ≤ l.length ∧ j = .int .i64 k ∧ memB (l.take k) s = false) (fun j => l.length - (intOf j).toNat)
  case atStart => exact ⟨0, Nat.zero_le _, rfl, rfl⟩
  case round =>
    obtain ⟨k, hk, rfl, hm⟩ := hrel
    have HM := Lib.hid hm
    clear hm
    by_cases hlt : k < l.length
    · obtain ⟨b, off, rfl, _, hc⟩ := HR.out (by omega)
      have ck := hc k hlt
      have HTK := Lib.hid (HT.out k hlt)
      have HYK := Lib.hid (HY.out k hlt)
      clear hc
      generalize l[k] = x at *
      by_cases he : x = s
      · subst he
        have heq := beqWT (a := x)
        have HR := Lib.hid (HYK.out rfl)
        go_wp2
        go_ret
        exact ⟨(congrArg (fun b => Ending.returned (.bool b)) HR.out).symm, rfl⟩
      · have heq := beqWF he
        have HN := Lib.hid (show memB (l.take (k + 1)) s = false by rw [HTK.out, HM.out, decide_eq_false he]; rfl)
        clear he
        go_wp2
        go_round
        case rel => exact ⟨k + 1, by omega, by go_num, HN.out⟩
        case measure => simp [intOf]; omega
    · obtain rfl : k = l.length := by omega
      have HR := Lib.hid (show memB l s = false by have := HM.out; rwa [List.take_length] at this)
      go_wp2
      go_ret
      exact ⟨(congrArg (fun b => Ending.returned (.bool b)) HR.out).symm, rfl⟩
set_option maxHeartbeats 1000000 in
set_option maxRecDepth 100000 in
theorem rsame_any {w : World} {a b : Option Addr} {c d : Nat} {l m : List ByteArray} (h : StrRow w a l) (h' : StrRow w b m) (hl : l.length ≤ maxLen) (hm : m.length ≤ maxLen) :
    Calls Try.prog 18 #[.slice a l.length c, .slice b m.length d] w fun e w' => e = .returned (.bool (decide (l = m))) ∧ Below w.heap.size w w' := by
  unfold maxLen at hl hm
  by_cases hn : l.length = m.length
  · have HR := Lib.hid (fun h0 => sRow_some h h0)
    have HR' := Lib.hid (fun h0 => sRow_some h' h0)
    have HE := Lib.hid (show (∀ k (h1 : k < l.length) (h2 : k < m.length), l[k] = m[k]) → l = m from fun hh => List.ext_getElem hn hh)
    have HNE := Lib.hid (show ∀ k (h1 : k < l.length) (h2 : k < m.length), l[k] ≠ m[k] → l ≠ m from fun k h1 h2 hne e => hne (by subst e; rfl))
    rw [hn]
    clear h h'
    go_enter Try.func18, Try.ntmps18
    go_wp2
    go_loopw [5] (fun j wr => ∃ k : Nat, k ≤ m.length ∧ j = .int .i64 k ∧ (∀ i (hi : i < k) (h1 : i < l.length) (h2 : i < m.length), l[i] = m[i]) ∧ Below w.heap.size w wr) (fun j _ => m.length - (intOf j).toNat)
    case atStart => exact ⟨0, Nat.zero_le _, rfl, fun i hi => absurd hi (Nat.not_lt_zero i), Below.refl _ _⟩
    case round =>
      obtain ⟨k, hk, rfl, hsame, hb⟩ := hrel
      have HS := Lib.hid hsame
      have HB := Lib.hid hb
      clear hsame
      by_cases hlt : k < m.length
      · obtain ⟨b1, o1, rfl, hb1, hc1⟩ := HR.out (by omega)
        obtain ⟨b2, o2, rfl, hb2, hc2⟩ := HR'.out (by omega)
        have ck := (hb.cell (p := ⟨b1, o1 + k, none⟩) hb1).trans (hc1 k (by omega))
        have dk := (hb.cell (p := ⟨b2, o2 + k, none⟩) hb2).trans (hc2 k hlt)
        have HX := Lib.hid (HNE.out k (by omega) hlt)
        have HZ := Lib.hid (show ∃ x y, l[k]'(by omega) = x ∧ m[k] = y from ⟨_, _, rfl, rfl⟩)
        obtain ⟨x, y, hx, hy⟩ := HZ.out
        have HXE := Lib.hid hx
        have HYE := Lib.hid hy
        rw [hx] at ck
        rw [hy] at dk
        clear hc1 hc2 hb hx hy HZ
        by_cases he : x = y
        · subst he
          have heq := beqWT (a := x)
          go_wp2
          go_quiet (fail)
          go_wp2
          go_roundw
          case rel => exact ⟨k + 1, by omega, by go_num, fun i hi h1 h2 => by
            by_cases e : i = k
            · subst e; rw [HXE.out, HYE.out]
            · exact HS.out i (by omega) h1 h2, below_drewN HB.out _⟩
          case measure => simp [intOf]; omega
        · have heq := beqWF he
          have HD := Lib.hid (show decide (l = m) = false from decide_eq_false (HX.out (by rw [HXE.out, HYE.out]; exact he)))
          clear he
          go_wp2
          go_quiet (fail)
          go_wp2
          go_ret
          exact ⟨(congrArg (fun b => Ending.returned (.bool b)) HD.out).symm, below_drewN HB.out _⟩
      · have HD := Lib.hid (show decide (l = m) = true from decide_eq_true (HE.out (fun i h1 h2 => HS.out i (by omega) h1 h2)))
        clear hb
        go_wp2
        go_ret
        exact ⟨(congrArg (fun b => Ending.returned (.bool b)) HD.out).symm, HB.out⟩
  · have HD := Lib.hid (show decide (l = m) = false from decide_eq_false (fun e => hn (by rw [e])))
    have hn2 : ¬ ((l.length : Int) = (m.length : Int)) := by omega
    clear h h'
    go_enter Try.func18, Try.ntmps18
    go_wp2
    go_ret
    exact ⟨(congrArg (fun b => Ending.returned (.bool b)) HD.out).symm, Below.refl _ _⟩
end Go.Proofs.Ytabongfoeoideaa
