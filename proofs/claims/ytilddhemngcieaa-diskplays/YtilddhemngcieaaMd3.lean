/-
  The law's model: what an operation does (written by tools/does.py).
-/
import Derived.Test.YtilddhemngcieaaMd2
namespace Go.Pal.Dk
open Go.Pal
def opD (d : Dk) (kind : Int) (nm dt : ByteArray) (m : Int) : Int × Dk := if kind = 0 then appendD d nm dt else if kind = 1 then syncD d nm else cutD d nm m
theorem modF_set {n : ByteArray} {h : Fl → Fl} : ∀ {l : List Fl}, SortedF l → ∀ (i : Nat) (hi : i < l.length), l[i].name = n → modF n h l = l.set i (h l[i])
  | f :: r, hs, 0, _, hn => by
    obtain ⟨h1, _⟩ := List.pairwise_cons.1 hs
    have hn' : f.name = n := hn
    show (if f.name = n then h f else f) :: modF n h r = _
    rw [if_pos hn', modF_same (fun g hg e => by have := h1 g hg; rw [hn', e] at this; exact ltB_irrefl _ this)]
    rfl
  | f :: r, hs, i + 1, hi, hn => by
    obtain ⟨h1, h2⟩ := List.pairwise_cons.1 hs
    have hi' : i < r.length := by simpa using hi
    have hn' : r[i].name = n := hn
    have hne : f.name ≠ n := fun e => by have := h1 r[i] (List.getElem_mem hi'); rw [e, hn'] at this; exact ltB_irrefl _ this
    show (if f.name = n then h f else f) :: modF n h r = _
    rw [if_neg hne, modF_set h2 i hi' hn']
    rfl
theorem atF_at {l : List Fl} {n : ByteArray} {f : Fl} (h : atF l n = some f) : ∃ (i : Nat) (hi : i < l.length), l[i] = f ∧ l[i].name = n := by
  obtain ⟨hm, hn⟩ := atF_some h
  obtain ⟨i, hi, e⟩ := List.getElem_of_mem hm
  exact ⟨i, hi, e, by rw [e]; exact hn⟩
end Go.Pal.Dk
namespace Go.Proofs.Ytilddhemngcieaa
open Go.RowKit Go.Pal Go.Pal.Dk
def MWent (w : World) (base M : Nat) (v : Value) (d' : Dk) (w' : World) : Prop :=
  ∃ v' left', MdAt w' base M d' v' left' ∧ Off (MFoot M v) w w' ∧ ∀ g, v'.ownBlock = some g → MFoot M v g ∨ w.heap.size ≤ g
theorem MWent.same {w w' : World} {base M : Nat} {v : Value} {d' : Dk} {left' : Nat} (h : MdAt w' base M d' v left') (ho : Off (MFoot M v) w w') : MWent w base M v d' w' := ⟨v, left', h, ho, fun _ hg => .inl (.inr hg)⟩
end Go.Proofs.Ytilddhemngcieaa
