/-
  append of a row of texts onto an own row of none, whether there are any or not. No program in sight.
-/
import Derived.Test.YtggfmnmopfdiaaaGreatDoorApz
import Derived.Test.YtggfmnmopfdiaaaGreatDoorInPlain
import Derived.Test.YtggfmnmopfdiaaaGreatDoorBlk
import Derived.Deep.AppendLies
namespace Go.Pal
open Go.RowKit Go
theorem rowNews {w : World} {b off : Nat} {l : List ByteArray} (h : StrRow w (some ⟨b, off, none⟩) l) : ∀ j u, (l.map Value.string)[j]? = some u → w.cell? ((⟨b, off, none⟩ : Addr).add j) = some u := by
  intro j u hu
  rw [List.getElem?_map, Option.map_eq_some_iff] at hu
  obtain ⟨s, hs, rfl⟩ := hu
  have hj := (List.getElem?_eq_some_iff.1 hs).1
  rcases h with h | ⟨b', off', e, _, hc⟩
  · rw [h] at hj; simp at hj
  · cases e
    have e2 : ((⟨b, off, none⟩ : Addr).add j) = ⟨b, off + j, none⟩ := by simp [Addr.add]
    rw [e2, hc j hj, List.getD_eq_getElem?_getD, hs]; rfl
theorem wpList_append_rows {P : Program} {w : World} {ops : Array Oper} {rest : List Oper} {o : Oper} {a : Act} {Q : Exit → Act → World → Prop} (hgd : o.guard = none) (s x : Operand) (t : TypeId)
    (ho : o.op = .call { callee := .builtin .append, args := #[s, x], argTypes := #[t, t] })
    (base : Nat) (e : TypeId) (i : TypeInfo) (ht : P.underlying t = some (.slice e)) (hi : P.info? e = some i) (hz : i.zero = some (.string ⟨#[]⟩)) (hsize : i.size = 1) (hby : i.bytes = 16)
    (v : Value) (hs : a.eval s = v) (hown : w.ownsRow base e 1 v 0 []) (y : Option Addr) (l : List ByteArray) (c : Nat) (hx : a.eval x = .slice y l.length c) (hrow : StrRow w y l)
    (h63 : l.length ≤ maxLen) (hbytes : l.length * 16 ≤ 140737488355328) (hbase : base ≤ w.heap.size)
    (h : ∀ v' w', w'.ownsRow base e 1 v' l.length (l.map Value.string) → w.grownBy w' v.ownBlock → wpList P ops Q rest (a.put o.dst v') w') : wpList P ops Q (o :: rest) a w := by
  by_cases h0 : l.length = 0
  · obtain rfl : l = [] := List.eq_nil_of_length_eq_zero h0
    exact wpList_append_zero hgd s x t ho base e i 1 ht hi v 0 [] hs hown y c hx (h v w hown ⟨rfl, rfl, rfl, Nat.le_refl _, fun _ _ _ => rfl⟩)
  · obtain ⟨b, off, rfl⟩ : ∃ b off, y = some ⟨b, off, none⟩ := by
      rcases hrow with hr | ⟨b, off, rfl, _⟩
      · rw [hr] at h0; exact absurd rfl h0
      · exact ⟨b, off, rfl⟩
    refine wpList_append_lies w hgd s x t ho base e i (.string ⟨#[]⟩) 1 16 ht hi hz hsize hby rfl (by decide) v 0 [] hs hown ⟨b, off, none⟩ l.length c (l.map Value.string) hx (by simp) (rowNews hrow) (fun u hu => by obtain ⟨q, _, rfl⟩ := List.mem_map.1 hu; rfl) (by omega) (by omega) (by omega) hbase _ rfl ?_
    intro g cap w' h1 h2 _ _
    have e1 : 0 + l.length = l.length := Nat.zero_add _
    rw [e1] at h1 ⊢
    exact h _ _ h1 h2
end Go.Pal
