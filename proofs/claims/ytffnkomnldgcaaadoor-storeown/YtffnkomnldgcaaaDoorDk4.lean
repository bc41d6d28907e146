/-
  Contracts of package disk: Arm, Read, Sync.
-/
import Derived.Test.YtffnkomnldgcaaaDoorDk3
namespace Go.Proofs.YtffnkomnldgcaaaDoor
open Go.RowKit Go.Pal Go.Pal.Dk Go.Maps

/-- What an operation leaves: the disk is d', and nothing else has turned. -/
def Went (w : World) (base D : Nat) (d : Dk) (L : Lay) (d' : Dk) (w' : World) : Prop :=
  ∃ L', DkAt w' base D d' L' ∧ Off (Foot D d.files L) w w' ∧ ∀ x, Foot D d'.files L' x → Foot D d.files L x ∨ w.heap.size ≤ x
theorem Went.head {w w' : World} {base D : Nat} {d d' : Dk} {L : Lay} (h : DkAt w' base D d' L) (hf : d'.files = d.files) (hg : w.grownBy w' (some D)) : Went w base D d L d' w' :=
  ⟨L, h, (Off.of_grown hg).mono (fun g _ e => .inl (by simpa using e.symm)), fun x hx => .inl (by rw [hf] at hx; exact hx)⟩
theorem ptrV_some {L : Lay} {l : List Fl} {n : ByteArray} {f : Fl} (h : atF l n = some f) : ptrV L l n = .pointer (some ⟨L.fb n, 0, none⟩) := by simp [ptrV, h]
theorem ptrV_none {L : Lay} {l : List Fl} {n : ByteArray} (h : atF l n = none) : ptrV L l n = .pointer none := by simp [ptrV, h]
theorem row_form {w : World} {base n : Nat} {t : TypeId} {v : Value} {l : List Value} (h : w.ownsRow base t 1 v n l) : ∃ p cap, v = .slice p n cap ∧ n ≤ cap ∧ cap ≤ maxLen := by
  rcases h.2 with ⟨rfl, rfl⟩ | ⟨g, cap, cur, rfl, _, _, h1, h2, _⟩
  · exact ⟨none, 0, rfl, Nat.le_refl _, by decide⟩
  · exact ⟨_, cap, rfl, h1, h2⟩

set_option maxHeartbeats 400000 in
set_option maxRecDepth 100000 in
theorem dread_any {w : World} {base D : Nat} {d : Dk} {L : Lay} (h : DkAt w base D d L) (n : ByteArray) (hn : n.size ≤ maxLen) :
    Calls Tryd.prog 48 #[.pointer (some ⟨D, 0, none⟩), .string n] w fun e w' => e = .returned (.tuple #[.string (readD d n).1, .int .i64 (readD d n).2]) ∧ w' = w := by
  have c2 : w.cell? ⟨D, 2, none⟩ = some (.map L.map) := h.blk.cell 2
  have c3 : w.cell? ⟨D, 3, none⟩ = some (.bool d.on) := h.blk.cell 3
  have hl := h.look n hn
  unfold readD
  cases hon : d.on
  · rw [hon] at c3
    clear hl h
    go_enter Tryd.func48, Tryd.ntmps48
    go_wp2
    go_ret2
    exact ⟨rfl, rfl⟩
  · rw [hon] at c3
    cases hf : atF d.files n with
    | none =>
      rw [ptrV_none hf] at hl
      clear h hf
      go_enter Tryd.func48, Tryd.ntmps48
      go_wp2
      go_ret2
      exact ⟨rfl, rfl⟩
    | some f =>
      rw [ptrV_some hf] at hl
      obtain ⟨hm, hfn⟩ := atF_some hf
      have hx := h.each f hm
      have k0 := hx.blk.cell 0
      rw [hfn] at k0
      have ht := row_text hx.row
      rw [hfn] at ht
      obtain ⟨p, cap, hv, _, _⟩ := row_form hx.row
      rw [hfn] at hv
      rw [hv] at k0 ht
      simp only [List.getElem?_cons_zero] at k0
      clear h hf hx hm hv
      generalize f.data.size = z at *
      go_enter Tryd.func48, Tryd.ntmps48
      go_wp2
      go_ret2
      exact ⟨rfl, rfl⟩
end Go.Proofs.YtffnkomnldgcaaaDoor
