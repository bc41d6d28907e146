/-
  Contracts of package wait: Missing.
-/
import Derived.Test.YtabongfoeoideaaWa4
import Derived.Test.YtabongfoeoideaaSrtS
namespace Go.Pal
open Go.RowKit
def missW (ws : List Wt) : List ByteArray := riseL ((ws.flatMap Wt.miss).filter (fun s => !ws.any (fun x => decide (x.id = s))))
theorem mem_missW {ws : List Wt} {s : ByteArray} : s ∈ missW ws ↔ (∃ x ∈ ws, s ∈ x.miss) ∧ ∀ x ∈ ws, x.id ≠ s := by
  unfold missW; rw [mem_rise]; simp
end Go.Pal
namespace Go.Proofs.Ytabongfoeoideaa
open Go.RowKit Go.Pal Go.Pal.Dk
set_option linter.unusedVariables false

theorem take_mem {ws : List Wt} {k : Nat} (hk : k < ws.length) {p : Wt → Prop} : (∃ x ∈ ws.take (k + 1), p x) ↔ (∃ x ∈ ws.take k, p x) ∨ p ws[k] := by
  rw [List.take_succ_eq_append_getElem hk]
  constructor
  · rintro ⟨x, hx, h⟩
    rcases List.mem_append.1 hx with h1 | h1
    · exact .inl ⟨x, h1, h⟩
    · rw [List.mem_singleton.1 h1] at h; exact .inr h
  · rintro (⟨x, hx, h⟩ | h)
    · exact ⟨x, List.mem_append_left _ hx, h⟩
    · exact ⟨_, List.mem_append_right _ (List.mem_singleton.2 rfl), h⟩
theorem one_str1 (s : ByteArray) : ∀ u ∈ [Value.string s], u.oneCell' = true := by intro u hu; rw [List.mem_singleton.1 hu]; rfl
theorem rowS_weak {w : World} {b b' n size : Nat} {t : TypeId} {v : Value} {l : List Value} (h : w.ownsRow b t size v n l) (hb : b' ≤ b) : w.ownsRow b' t size v n l := by
  refine ⟨h.1, ?_⟩
  rcases h.2 with h2 | ⟨g, cap, cur, e, h3, r⟩
  · exact .inl h2
  · exact .inr ⟨g, cap, cur, e, Nat.le_trans hb h3, r⟩
theorem take_all {ws : List Wt} {k : Nat} (hk : k < ws.length) {p : Wt → Prop} : (∀ x ∈ ws.take (k + 1), p x) ↔ (∀ x ∈ ws.take k, p x) ∧ p ws[k] := by
  rw [List.take_succ_eq_append_getElem hk]
  constructor
  · intro h
    exact ⟨fun x hx => h x (List.mem_append_left _ hx), h _ (List.mem_append_right _ (List.mem_singleton.2 rfl))⟩
  · rintro ⟨h1, h2⟩ x hx
    rcases List.mem_append.1 hx with h | h
    · exact h1 x h
    · rw [List.mem_singleton.1 h]; exact h2
end Go.Proofs.Ytabongfoeoideaa
