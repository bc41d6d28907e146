/-
  The document's Same of two like events; Sign without a key.
-/
import Derived.Test.YtggfmnmopfdiaaaGreatDoorE1
import Derived.Handy
namespace Go.Proofs.YtggfmnmopfdiaaaGreatDoor
open Go.RowKit Go.Pal Go.Pal.Fr Go.Pal.Ev

/-- An event that came in: its list of parents, and what bounds it. -/
structure Came (w : World) (e : E) (a : Option Addr) (c : Nat) : Prop where
  row : StrRow w a e.parents
  len : e.parents.length ≤ maxLen
  cap : e.parents.length ≤ c
  each : ∀ i, (at' e.parents i).size ≤ maxLen
  body : e.body.size ≤ maxLen
  author : e.author.size ≤ maxLen
  sig : e.sig.size ≤ maxLen
theorem Came.below {w w' : World} {e : E} {a : Option Addr} {c : Nat} (h : Came w e a c) (hb : Below w.heap.size w w') : Came w' e a c := ⟨h.row.below hb, h.len, h.cap, h.each, h.body, h.author, h.sig⟩
theorem box_cells2 {w : World} {v0 v1 v2 v3 v4 u0 u1 u2 u3 u4 : Value} {t : TypeId} {w1 : World} (q : Same ((w.alloc (.cells #[v0, v1, v2, v3, v4] t)).alloc (.cells #[u0, u1, u2, u3, u4] t)) w1) :
    w1.cell? ⟨w.heap.size, 2, none⟩ = some v2 ∧ w1.cell? ⟨w.heap.size + 1, 2, none⟩ = some u2 := by
  refine ⟨?_, ?_⟩
  · rw [q.cell, ((alloc_below (w.alloc (.cells #[v0, v1, v2, v3, v4] t)) _).cell (p := ⟨w.heap.size, 2, none⟩) (by simp)), World.cell?_alloc_mark]; simp
  · rw [q.cell]
    have e : (w.alloc (.cells #[v0, v1, v2, v3, v4] t)).heap.size = w.heap.size + 1 := by simp
    rw [← e, World.cell?_alloc_mark]; simp

set_option maxHeartbeats 2000000 in
theorem same_true (w : World) (e : E) (a b : Option Addr) (c d : Nat) (h1 : StrRow w a e.parents) (h2 : StrRow w b e.parents) (hl : e.parents.length ≤ 100000) :
    Calls Tryz.prog 11 #[evV e a c, evV e b d] w fun r w' => r = .returned (.bool true) ∧ Below w.heap.size w w' := by
  obtain ⟨kd, au, l, bo, sg⟩ := e
  unfold evV
  simp only at h1 h2 hl ⊢
  have H1 := Lib.hid h1
  have H2 := Lib.hid h2
  clear h1 h2
  go_enter Tryz.func11, Tryz.ntmps11
  go_wp2
  go_loopw [5] (fun i wr => ∃ k : Nat, k ≤ l.length ∧ i = .int .i64 k ∧ Same ((w.alloc (.cells #[.int .i64 kd, .string au, .slice a l.length c, .string bo, .string sg] 24)).alloc (.cells #[.int .i64 kd, .string au, .slice b l.length d, .string bo, .string sg] 24)) wr) (fun i _ => l.length - (intOf i).toNat)
  case atStart => exact ⟨0, by omega, rfl, Same.refl _⟩
  case round =>
    obtain ⟨k, hk, rfl, hsm⟩ := hrel
    obtain ⟨c2, d2⟩ := box_cells2 hsm
    have hB := ((alloc_below w (.cells #[.int .i64 kd, .string au, .slice a l.length c, .string bo, .string sg] 24)).alloc (by simp) (.cells #[.int .i64 kd, .string au, .slice b l.length d, .string bo, .string sg] 24))
    have HB := Lib.hid (hB.trans ((sameB hsm).mono hB.size))
    have HSM := Lib.hid hsm
    clear hsm hB
    by_cases hlt : k < l.length
    · obtain ⟨b1, o1, rfl, _⟩ := row_some H1.out (by omega)
      obtain ⟨b2, o2, rfl, _⟩ := row_some H2.out (by omega)
      have r1 := row_cell (H1.out.below HB.out) k hlt
      have r2 := row_cell (H2.out.below HB.out) k hlt
      generalize at' l k = x at *
      go_wp2
      go_quiet (fail)
      go_wp2
      go_roundw
      case rel => exact ⟨k + 1, by omega, by go_num, HSM.out.drewN _⟩
      case measure => simp [intOf]; omega
    · obtain rfl : k = l.length := by omega
      go_wp2
      go_ret
      exact ⟨rfl, HB.out⟩

set_option maxHeartbeats 1000000 in
theorem sign_nokey (w : World) (e : E) (a : Option Addr) (c : Nat) :
    Calls Tryz.prog 8 #[evV e a c, .pointer none] w fun r w' => r = .returned (.tuple #[evV zero none 0, .int .i64 1]) ∧ Below w.heap.size w w' := by
  unfold evV
  simp only [zero, List.length_nil]
  go_enter Tryz.func8, Tryz.ntmps8
  go_wp2
  go_returns
  exact ⟨rfl, (alloc_below w _).alloc (by simp) _⟩
end Go.Proofs.YtggfmnmopfdiaaaGreatDoor
