/-
  Layer 12: Add, whatever it answers.
-/
import Derived.Test.YtabongfoeoideaaDg6
namespace Go.Pal
open Go.RowKit
theorem rankE_append {es : List (ByteArray × List ByteArray)} (e : ByteArray × List ByteArray) {s : ByteArray} (h : (lookE es s).isSome = true) : rankE (es ++ [e]) s = rankE es s := by
  obtain ⟨x, hx, hs⟩ := List.mem_map.1 (lookE_isSome.1 h)
  have hlt : es.findIdx (fun e => decide (e.1 = s)) < es.length := List.findIdx_lt_length_of_exists ⟨x, hx, by simpa using hs⟩
  unfold rankE
  rw [List.findIdx_append, if_pos hlt]
theorem rankE_new {es : List (ByteArray × List ByteArray)} (id : ByteArray) (ps : List ByteArray) (h : (lookE es id).isSome = false) : rankE (es ++ [entOf id ps]) id = es.length := by
  unfold rankE
  have hn : ¬ es.findIdx (fun e => decide (e.1 = id)) < es.length := fun hlt => by
    have h1 := List.findIdx_getElem (w := hlt)
    exact lookE_none h _ (List.getElem_mem hlt) (by simpa using h1)
  rw [List.findIdx_append, if_neg hn]
  simp [List.findIdx_cons, entOf]
theorem DagOk.nil : DagOk [] := ⟨fun e he => (by cases he), Nat.zero_le _, fun e he => (by cases he), fun e he => (by cases he), fun e he => (by cases he)⟩
theorem DagOk.add {es : List (ByteArray × List ByteArray)} (h : DagOk es) {id : ByteArray} {ps : List ByteArray} (hlen : ps.length ≤ 1000000) : DagOk (addE es id ps) := by
  unfold addE
  split
  case isFalse => exact h
  case isTrue hc =>
    unfold addC at hc
    split at hc
    · cases hc
    rename_i h1
    split at hc
    · cases hc
    rename_i h2
    split at hc
    · cases hc
    rename_i h3
    split at hc
    case isFalse => cases hc
    case isTrue h4 =>
      have hno : (lookE es id).isSome = false := by simpa using h2
      have hex : ∀ p, (lookE es p).isSome = true → (lookE (es ++ [entOf id (riseL ps)]) p).isSome = true := fun p hp => by
        rw [lookE_append, if_pos hp]; exact hp
      refine ⟨fun e he p hp => ?_, by simp; omega, fun e he => ?_, fun e he => ?_, fun e he => ?_⟩
      · rcases List.mem_append.1 he with he | he
        · obtain ⟨q1, q2⟩ := h.par e he p hp
          have he1 : (lookE es e.1).isSome = true := lookE_isSome.2 (List.mem_map_of_mem he)
          exact ⟨hex p q1, by rw [rankE_append _ q1, rankE_append _ he1]; exact q2⟩
        · rw [List.mem_singleton.1 he] at hp ⊢
          have q1 : (lookE es p).isSome = true := List.all_eq_true.1 h4 p ((mem_rise ps p).1 hp)
          refine ⟨hex p q1, ?_⟩
          rw [rankE_append _ q1, show (entOf id (riseL ps)).1 = id from rfl, rankE_new id _ hno]
          obtain ⟨x, hx, hs⟩ := List.mem_map.1 (lookE_isSome.1 q1)
          exact List.findIdx_lt_length_of_exists ⟨x, hx, by simpa using hs⟩
      · rcases List.mem_append.1 he with he | he
        · exact h.size e he
        · rw [List.mem_singleton.1 he]; show id.size ≤ 64; omega
      · rcases List.mem_append.1 he with he | he
        · exact h.wide e he
        · rw [List.mem_singleton.1 he]; exact Nat.le_trans (rise_le ps) hlen
      · rcases List.mem_append.1 he with he | he
        · exact h.rise e he
        · rw [List.mem_singleton.1 he]; exact rise_rising ps
end Go.Pal
namespace Go.Proofs.Ytabongfoeoideaa
open Go.RowKit Go.Pal Go.Shelf
set_option linter.unusedVariables false
theorem dadd_any {w : World} {base G : Nat} {m : Option Nat} {mv : ByteArray → Value} {es : List (ByteArray × List ByteArray)} (h : DagAt w base G m mv es) (hbase : base ≤ w.heap.size) (id : ByteArray) {a : Option Addr} {ps : List ByteArray} (cap : Nat) (hr : StrRow w a ps) (hlen : ps.length ≤ 1000000) (hps : ∀ s ∈ ps, s.size ≤ 281474976710656) :
    Calls Try.prog 14 #[.pointer (some ⟨G, 0, none⟩), .string id, .slice a ps.length cap] w fun e w' => e = .returned (.int .i64 (addC es id ps)) ∧ (∃ m' mv', DagAt w' base G m' mv' (addE es id ps) ∧ (∀ g, DFoot G m' mv' (addE es id ps) g → DFoot G m mv es g ∨ w.heap.size ≤ g)) ∧ Off (DFoot G m mv es) w w' := by
  have same : ∀ c : Int, c ≠ 0 → addC es id ps = c → Calls Try.prog 14 #[.pointer (some ⟨G, 0, none⟩), .string id, .slice a ps.length cap] w (fun e w' => e = .returned (.int .i64 c) ∧ w' = w) → Calls Try.prog 14 #[.pointer (some ⟨G, 0, none⟩), .string id, .slice a ps.length cap] w fun e w' => e = .returned (.int .i64 (addC es id ps)) ∧ (∃ m' mv', DagAt w' base G m' mv' (addE es id ps) ∧ (∀ g, DFoot G m' mv' (addE es id ps) g → DFoot G m mv es g ∨ w.heap.size ≤ g)) ∧ Off (DFoot G m mv es) w w' := fun c hc he hC => by
    refine hC.mono ?_
    rintro e w' ⟨rfl, rfl⟩
    have hE : addE es id ps = es := by unfold addE; rw [he, if_neg hc]
    rw [hE, he]
    exact ⟨rfl, ⟨m, mv, h, fun g hg => .inl hg⟩, Off.refl _ _⟩
  by_cases h1 : id.size = 0 ∨ 64 < id.size
  · exact same 1 (by decide) (by unfold addC; rw [if_pos h1]) (dadd_arg G id h1 a _ cap w)
  have h0 : id.size ≠ 0 := fun e => h1 (.inl e)
  have h64 : id.size ≤ 64 := by omega
  cases ht : (lookE es id).isSome with
  | true => exact same 11 (by decide) (by unfold addC; rw [if_neg h1, if_pos ht]) (dadd_twice h id h0 h64 ht a _ cap)
  | false =>
    have ht' : ¬ (lookE es id).isSome = true := by rw [ht]; exact Bool.false_ne_true
    by_cases hl : 300 ≤ es.length
    · exact same 3 (by decide) (by unfold addC; rw [if_neg h1, if_neg ht', if_pos hl]) (dadd_long h id h0 h64 ht hl a _ cap)
    cases hm : ps.all (fun p => (lookE es p).isSome) with
    | false => exact same 9 (by decide) (by unfold addC; rw [if_neg h1, if_neg ht', if_neg hl, hm]; rfl) (dadd_missing h id h0 h64 ht (by omega) cap hr hlen (fun s hs => Nat.le_trans (hps s hs) (by unfold maxLen; omega)) hm)
    | true =>
      have hC : addC es id ps = 0 := by unfold addC; rw [if_neg h1, if_neg ht', if_neg hl, hm]; rfl
      have hE : addE es id ps = es ++ [entOf id (riseL ps)] := by unfold addE; rw [hC]; rfl
      rw [hC, hE]
      exact dadd_ok h hbase id h0 h64 ht (by omega) cap hr hlen hps hm
end Go.Proofs.Ytabongfoeoideaa
