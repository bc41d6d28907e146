/-
  Put, whatever it answers.
-/
import Derived.Test.YtalpmnmpggljcaaWa6
namespace Go.Proofs.Ytalpmnmpggljcaa
open Go.RowKit Go.Pal Go.Pal.Dk
set_option linter.unusedVariables false

def putE (ws : List Wt) (places : Nat) (id : ByteArray) (m : List ByteArray) : Int :=
  if m.length = 0 then 1 else if (findW ws id).isSome then 11 else if places ≤ ws.length then 8 else 0
theorem wput_any {w : World} {base W places : Nat} {v : Value} {ws : List Wt} (h : WaitAt w base W places v ws) (hp : places ≤ 300) (hl : ws.length ≤ places) {id text : ByteArray} (hid : id.size ≤ 281474976710656) (htx : text.size ≤ 281474976710656) {a : Option Addr} {m : List ByteArray} {cap : Nat} (hm : StrRow w a m) (hm1 : m.length ≤ 1000000)
    (hms : ∀ s ∈ m, s.size ≤ 281474976710656) (hbase : base ≤ w.heap.size) : Calls Try.prog 37 #[.pointer (some ⟨W, 0, none⟩), .string id, .string text, .slice a m.length cap] w fun e w' => e = .returned (.int .i64 (putE ws places id m)) ∧ ∃ v' ws', WaitAt w' base W places v' ws' ∧ (putE ws places id m ≠ 0 ∧ ws' = ws ∨ putE ws places id m = 0 ∧ m.length ≠ 0 ∧ ∃ mb, ws' = ws ++ [⟨id, text, mb, dedupL m⟩]) ∧ Off (WFoot W v ws) w w' ∧ ws'.length ≤ places := by
  unfold putE
  by_cases h0 : m.length = 0
  · rw [if_pos h0, h0]
    refine (wput_arg w W id text a cap).mono ?_
    rintro e w' ⟨rfl, rfl⟩
    exact ⟨rfl, v, ws, h, .inl ⟨by decide, rfl⟩, Off.refl _ _, hl⟩
  rw [if_neg h0]
  by_cases h1 : (findW ws id).isSome = true
  · rw [if_pos h1]
    refine (wput_twice h id text a m.length cap (by omega) h1).mono ?_
    rintro e w' ⟨rfl, b⟩
    exact ⟨rfl, v, ws, h.below b (Nat.le_refl _), .inl ⟨by decide, rfl⟩, Off.of_new b _, hl⟩
  rw [if_neg h1]
  have h1' : (findW ws id).isSome = false := by simpa using h1
  by_cases h2 : places ≤ ws.length
  · rw [if_pos h2]
    refine (wput_busy h hp id text a m.length cap (by omega) h1' h2).mono ?_
    rintro e w' ⟨rfl, b⟩
    exact ⟨rfl, v, ws, h.below b (Nat.le_refl _), .inl ⟨by decide, rfl⟩, Off.of_new b _, hl⟩
  rw [if_neg h2]
  refine (wput_ok h hp hid htx hm (by omega) hm1 hms h1' (by omega) hbase).mono ?_
  rintro e w' ⟨rfl, v', mb, q1, q2, _, _⟩
  exact ⟨rfl, v', _, q1, .inr ⟨rfl, h0, mb, rfl⟩, q2.mono (fun g _ hg => by rcases hg with hg | hg; exact .inl hg; exact .inr (.inl hg)), by simp; omega⟩
/-- A row of texts lies apart from a room. -/
theorem WaitAt.str_row {w w' : World} {base W places b n : Nat} {v u : Value} {ws : List Wt} {l : List Value} (h : WaitAt w base W places v ws) (ho : Off (WFoot W v ws) w w') (hr : w.ownsRow b 9 1 u n l) : w'.ownsRow b 9 1 u n l := by
  refine own_kept hr (fun g hg => ho.block g (own_lt hr hg).1 ?_)
  obtain ⟨_, _, cur, hc⟩ := own_lt hr hg
  rintro (rfl | hv | ⟨x, hx, rfl⟩)
  · have := h.blk
    unfold Blk at this
    rw [hc] at this
    injection this with this
    injection this with _ h3
    exact absurd h3 (by decide)
  · obtain ⟨_, _, cur', hc'⟩ := own_lt h.row hv
    rw [hc] at hc'
    injection hc' with hc'
    injection hc' with _ h3
    exact absurd h3 (by decide)
  · obtain ⟨es, c, hm⟩ := (h.maps x hx).1.obj
    rw [hc] at hm; cases hm
theorem WaitAt.off_below {w w' : World} {base W places : Nat} {v : Value} {ws : List Wt} (h : WaitAt w base W places v ws) (ho : Off (WFoot W v ws) w w') (hb : base ≤ w.heap.size) : Below base w w' := ho.below (fun g hg => (h.lt hg).2) hb
end Go.Proofs.Ytalpmnmpggljcaa
