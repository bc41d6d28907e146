/-
  Plain mathematics for layer 6: events and their bytes. No program in sight.
-/
import Derived.Test.YtggfmnmopfdiaaaGreatDoorF0
namespace Go.Pal.Ev
open Go.RowKit Go.Pal Go.Pal.Fr

structure E where
  kind : Int
  author : ByteArray
  parents : List ByteArray
  body : ByteArray
  sig : ByteArray

def evKind (k : Int) (n : Nat) (z : Nat) : Bool :=
  if k = 4 ∨ k = 5 then decide (z = 32) && decide (0 < n)
  else if k = 2 ∨ k = 3 then decide (0 < n)
  else if k = 1 then decide (n = 0) else false
def parOk (l : List ByteArray) : Bool := decide (l.length ≤ 8) && idsOk l
/-- Is an event right? -/
def evOk (e : E) : Bool := evKind e.kind e.parents.length e.body.size && parOk e.parents && decide (e.author.size = 32) && decide (e.body.size ≤ 200) && decide (e.sig.size ≤ 65535)
/-- Its content, its bytes. -/
def evC (e : E) : ByteArray := be 1 e.kind.toNat ++ tB e.author ++ be 1 e.parents.length ++ cat e.parents ++ tB e.body
def evB (e : E) : ByteArray := evC e ++ tB e.sig
/-- An event as a value: where its list of parents lies, and with what capacity. -/
def evV (e : E) (a : Option Addr) (c : Nat) : Value := .agg #[.int .i64 e.kind, .string e.author, .slice a e.parents.length c, .string e.body, .string e.sig]
def noSig (e : E) : E := { e with sig := ⟨#[]⟩ }
def zero : E := ⟨0, ⟨#[]⟩, [], ⟨#[]⟩, ⟨#[]⟩⟩

theorem evOk_all {e : E} (h : evOk e = true) : evKind e.kind e.parents.length e.body.size = true ∧ e.parents.length ≤ 8 ∧ idsOk e.parents = true ∧ e.author.size = 32 ∧ e.body.size ≤ 200 ∧ e.sig.size ≤ 65535 := by
  simp [evOk, parOk] at h
  obtain ⟨⟨⟨⟨h1, h2, h3⟩, h4⟩, h5⟩, h6⟩ := h
  exact ⟨h1, h2, h3, h4, h5, h6⟩
theorem kind_range {k : Int} {n z : Nat} (h : evKind k n z = true) : 1 ≤ k ∧ k ≤ 5 := by
  unfold evKind at h
  split at h
  · omega
  · split at h
    · omega
    · split at h
      · omega
      · cases h
end Go.Pal.Ev
