/-
  The laws' own great, at acts of palaverlaw13 and at entries of palaverref12.
-/
import Derived.Test.YtabongfoeoideaaWOp
namespace Go.Proofs.Ytabongfoeoideaa
open Go.RowKit Go.Pal
set_option linter.unusedVariables false

def greatWcA (c : Wc) : Bool := decide (60 < c.miss.length)
def greatWc (l : List Wc) : Bool := decide (60 < l.length) || l.any greatWcA
theorem greatWc_no {l : List Wc} (h : greatWc l = false) : l.length ≤ 60 ∧ ∀ c ∈ l, c.miss.length ≤ 60 := by
  unfold greatWc at h
  rw [Bool.or_eq_false_iff] at h
  refine ⟨by have := h.1; simp at this; omega, fun c hc => ?_⟩
  have := List.any_eq_false.1 h.2 c hc
  simp [greatWcA] at this
  omega
theorem anyWc_take (l : List Wc) (k : Nat) (h : k < l.length) : (l.take (k + 1)).any greatWcA = ((l.take k).any greatWcA || greatWcA l[k]) := by
  rw [List.take_succ_eq_append_getElem h, List.any_append]; simp
def greatEnA (c : En) : Bool := decide (60 < c.par.length)
def greatEn (l : List En) : Bool := decide (60 < l.length) || l.any greatEnA
theorem greatEn_no {l : List En} (h : greatEn l = false) : l.length ≤ 60 ∧ ∀ c ∈ l, c.par.length ≤ 60 := by
  unfold greatEn at h
  rw [Bool.or_eq_false_iff] at h
  refine ⟨by have := h.1; simp at this; omega, fun c hc => ?_⟩
  have := List.any_eq_false.1 h.2 c hc
  simp [greatEnA] at this
  omega
theorem anyEn_take (l : List En) (k : Nat) (h : k < l.length) : (l.take (k + 1)).any greatEnA = ((l.take k).any greatEnA || greatEnA l[k]) := by
  rw [List.take_succ_eq_append_getElem h, List.any_append]; simp
set_option maxHeartbeats 1000000 in
set_option maxRecDepth 100000 in
theorem greatEn_any (w : World) (a : Option Addr) (cap : Nat) (l : List En) (h : EnsAt w a l) :
    Calls Try.prog 10 #[.slice a l.length cap] w fun e w' => e = .returned (.bool (greatEn l)) ∧ w' = w := by
  have hlen := h.len
  unfold maxLen at hlen
  by_cases h60 : 60 < l.length
  · have d1 : decide (60 < (l.length : Int)) = true := decide_eq_true (by omega)
    have HB := Lib.hid (show greatEn l = true by unfold greatEn; rw [decide_eq_true h60, Bool.true_or])
    clear h60 h
    go_enter Try.func10, Try.ntmps10
    go_wp2
    go_ret
    exact ⟨by rw [HB.out]; rfl, rfl⟩
  have d1 : decide (60 < (l.length : Int)) = false := decide_eq_false (by omega)
  have HB := Lib.hid (show greatEn l = l.any greatEnA by unfold greatEn; rw [decide_eq_false h60, Bool.false_or])
  have HAT := Lib.hid (fun k hk => h.at_ (k := k) hk)
  have HOK := Lib.hid h.ok
  have HTK := Lib.hid (anyEn_take l)
  have HAL := Lib.hid (show l.take l.length = l from List.take_length)
  have HANT := Lib.hid (show ∀ k (hk : k < l.length), greatEnA l[k] = true → l.any greatEnA = true from fun k hk hh => List.any_eq_true.2 ⟨l[k], List.getElem_mem hk, hh⟩)
  clear h h60
  go_enter Try.func10, Try.ntmps10
  go_wp2
  go_loop [3] (fun i => ∃ k : Nat, k ≤ l.length ∧ i = .int .i64 k ∧ (l.take k).any greatEnA = false) (fun i => l.length - (intOf i).toNat)
  case atStart => exact ⟨0, Nat.zero_le _, rfl, rfl⟩
  case round =>
    obtain ⟨k, hk, rfl, hany⟩ := hrel
    have HANY := Lib.hid hany
    clear hany
    by_cases hlt : k < l.length
    · obtain ⟨b, off, rfl, _, hcl⟩ := HAT.out k hlt
      have hc := (HOK.out l[k] (List.getElem_mem hlt)).par.len
      unfold maxLen at hc
      have x1 := hcl 1 (by decide)
      simp only [En.cells, List.getElem?_cons_zero, List.getElem?_cons_succ] at x1
      have HT := Lib.hid (HTK.out k hlt)
      have HG := Lib.hid (HANT.out k hlt)
      have HGA := Lib.hid (show greatEnA l[k] = decide (60 < l[k].par.length) from rfl)
      generalize l[k].par = tx at *
      clear hcl
      have i1 : (k : Int) < (l.length : Int) := by omega
      have i0 : (0 : Int) ≤ (k : Int) := by omega
      by_cases g1 : 60 < tx.length
      · have g1i : (60 : Int) < (tx.length : Int) := by omega
        have HR := Lib.hid (HG.out (by rw [HGA.out, decide_eq_true g1]))
        go_wp2
        go_ret
        exact ⟨by rw [HB.out, HR.out]; rfl, rfl⟩
      · have g1i : ¬ ((60 : Int) < (tx.length : Int)) := by omega
        have HR := Lib.hid (show (l.take (k + 1)).any greatEnA = false by rw [HT.out, HANY.out, HGA.out, decide_eq_false g1]; simp)
        go_wp2
        go_round
        case rel => exact ⟨k + 1, by omega, by go_num, HR.out⟩
        case measure => simp [intOf]; omega
    · obtain rfl : k = l.length := by omega
      have HR := Lib.hid (show l.any greatEnA = false by have := HANY.out; rw [HAL.out] at this; exact this)
      have i1 : ¬ ((l.length : Int) < (l.length : Int)) := by omega
      go_wp2
      go_ret
      exact ⟨by rw [HB.out, HR.out]; rfl, rfl⟩
end Go.Proofs.Ytabongfoeoideaa
