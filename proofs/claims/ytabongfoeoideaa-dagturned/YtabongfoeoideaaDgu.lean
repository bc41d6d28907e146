/-
  Layer 12: one text struck out of a row of one's own; an entry added whose parents are any row.
-/
import Derived.Test.YtabongfoeoideaaDgt
import Derived.Test.YtabongfoeoideaaWa2
namespace Go.Pal
open Go.RowKit
set_option linter.unusedVariables false
/-- 'append' of any row onto one of one's own, in a region that draws. -/
theorem step_append_row {P : Program} {ops : Array Oper} {o : Oper} {a : Act} {w : World} {K : Act → World → Prop} {Q : Exit → Act → World → Prop} {E : Prop}
    (hgd : o.guard = none) (s x : Operand) (t : TypeId) (ho : o.op = .call { callee := .builtin .append, args := #[s, x], argTypes := #[t, t] })
    (base : Nat) (e : TypeId) (i : TypeInfo) (z : Value) (size bytes : Nat) (ht : P.underlying t = some (.slice e)) (hi : P.info? e = some i) (hz : i.zero = some z)
    (hsize : i.size = size) (hby : i.bytes = bytes) (hzs : z.cells.size = size) (hsz : 0 < size)
    (v : Value) (n : Nat) (xs : List Value) (hs : a.eval s = v) (hown : w.ownsRow base e size v n xs)
    (ad : Addr) (m c : Nat) (news : List Value) (hx : a.eval x = .slice (some ad) m c) (hl : news.length = m * size) (hnews : ∀ j u, news[j]? = some u → w.cell? (ad.add j) = some u) (h1 : ∀ u ∈ news, u.oneCell' = true)
    (h63 : n + m ≤ maxLen) (hbytes : (n + m) * bytes ≤ 140737488355328) (hbase : base ≤ w.heap.size)
    (h : ∀ v' w', w'.ownsRow base e size v' (n + m) (xs ++ news) → w.grownBy w' v.ownBlock → K (a.put o.dst v') w') :
    if Region.wanted o (yielded ops a.tmps) = true then Oper.wp P o a w K Q else E := by
  have hw : Region.wanted o (yielded ops a.tmps) = true := by simp [Region.wanted, hgd]
  rw [if_pos hw]
  exact wp_append_own w s x t ho base e i z size bytes ht hi hz hsize hby hzs hsz v n xs hs hown ad m c news hx hl hnews h1 h63 hbytes hbase (fun v' w' h2 h3 _ => h v' w' h2 h3)
/-- The next place, round and round. -/
theorem next_at {j n : Nat} (hj : j < n) : ∃ j', j' < n ∧ ((j : Int) + 1).tmod (n : Int) = (j' : Int) ∧ (j ≠ 0 → (j' = 0 ∨ j' = j + 1)) := by
  refine ⟨(j + 1) % n, Nat.mod_lt _ (by omega), by rw [Int.tmod_eq_emod_of_nonneg (by omega)]; exact_mod_cast rfl, fun _ => ?_⟩
  by_cases h : j + 1 = n
  · left; rw [h, Nat.mod_self]
  · right; exact Nat.mod_eq_of_lt (by omega)
end Go.Pal
namespace Go.Proofs.Ytabongfoeoideaa
open Go.RowKit Go.Pal Go.Shelf
set_option linter.unusedVariables false
theorem fadd_row {wr : World} {S : Nat → Prop} {G : Nat} {es : List (ByteArray × List ByteArray)} (h : DStF wr S G es) (hS : ∀ g, wr.heap.size ≤ g → S g) (id : ByteArray) {w10 : World} (hb : Below wr.heap.size wr w10) {base n c : Nat} {p : Option Addr} {ps : List ByteArray} (hr : OwnL w10 base (.slice p n c) ps) (hl : ps.length ≤ 1000000) (hz : ∀ s ∈ ps, s.size ≤ 281474976710656) (wx : World) (hd : Drawn w10 wx) :
    Calls Try.prog 14 #[.pointer (some ⟨G, 0, none⟩), .string id, .slice p n c] wx fun e w' => e = .returned (.int .i64 (addC es id ps)) ∧ DStF w' S G (addE es id ps) ∧ Off S wr w' := by
  obtain ⟨p', c', e9, _⟩ := hr.form
  cases e9
  have hbx : Below wr.heap.size wr wx := hb.trans (hd.below _)
  obtain ⟨m, mv, h1, h2⟩ := (h.new hbx).at_
  refine (dadd_any h1 (Nat.zero_le _) id c (hr.at_.below (hd.below _)) hl hz).mono ?_
  rintro e w' ⟨rfl, ⟨m', mv', h3, h4⟩, ho⟩
  refine ⟨rfl, ⟨⟨m', mv', h3, fun g hg => ?_⟩, h.ok.add hl⟩, (Off.of_new hbx S).trans (ho.mono (fun g _ hg => h2 g hg)) (fun g _ hg => hg)⟩
  rcases h4 g hg with h5 | h5
  · exact h2 g h5
  · have := hbx.size; exact hS g (by omega)
theorem str_take {w : World} {base n c : Nat} {g : Nat} {L : List ByteArray} (h : OwnL w base (.slice (some ⟨g, 0, none⟩) n c) L) {W : World} (hk : W.heap[g]? = w.heap[g]?) (o : Nat) (M : List ByteArray) (hM : ∀ j (hj : j < M.length), L[o + j]? = some M[j]) : ∀ j u, (M.map Value.string)[j]? = some u → W.cell? ((⟨g, o, none⟩ : Addr).add j) = some u := fun j u hu => by
  have hj := (List.getElem?_eq_some_iff.1 hu).1
  rw [List.length_map] at hj
  rw [Go.WideShapes.add_plain]
  have hlt : o + j < L.length := (List.getElem?_eq_some_iff.1 (hM j hj)).1
  obtain ⟨p', c', e9, _⟩ := h.form
  cases e9
  have h1 : W.cell? ⟨g, o + j, none⟩ = w.cell? ⟨g, o + j, none⟩ := by unfold World.cell?; rw [hk]
  rw [h1, (ownS_cell h (o + j) (by omega)).1, List.getElem?_map, hM j hj, ← hu, List.getElem?_map, List.getElem?_eq_getElem hj]
end Go.Proofs.Ytabongfoeoideaa
