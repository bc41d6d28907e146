/-
  A list of texts in a row of one's own that may begin anywhere in its block: read, appended to, moved on. No program in sight.
-/
import Derived.Test.YtabongfoeoideaaOw
import Derived.Test.YtabongfoeoideaaInPlain
import Derived.ArgAppend
import Derived.Deep.AppendLies
namespace Go.Pal
open Go.RowKit
/-- A value that holds texts, in a block of its own. -/
def QR (w : World) (t : TypeId) (base : Nat) (v : Value) (l : List ByteArray) : Prop :=
  (v = .slice none 0 0 ∧ l = []) ∨ ∃ g off cap cur, v = .slice (some ⟨g, off, none⟩) l.length cap ∧ base ≤ g ∧ w.heap[g]? = some (.cells cur t (0, 0)) ∧ off + cap ≤ cur.size ∧ l.length ≤ cap ∧ cap ≤ maxLen ∧ ∀ i, i < l.length → cur[off + i]? = some (.string (l.getD i ByteArray.empty))
theorem QR.nil (w : World) (t : TypeId) (base : Nat) : QR w t base (.slice none 0 0) [] := .inl ⟨rfl, rfl⟩
theorem QR.keep {w w' : World} {t : TypeId} {base : Nat} {v : Value} {l : List ByteArray} (h : QR w t base v l) (hk : ∀ g, v.ownBlock = some g → w'.heap[g]? = w.heap[g]?) : QR w' t base v l := by
  rcases h with h | ⟨g, off, cap, cur, e, hb, hh, r⟩
  · exact .inl h
  · exact .inr ⟨g, off, cap, cur, e, hb, (hk g (by rw [e]; rfl)).trans hh, r⟩
theorem QR.lt {w : World} {t : TypeId} {base : Nat} {v : Value} {l : List ByteArray} (h : QR w t base v l) {g : Nat} (hg : v.ownBlock = some g) : g < w.heap.size ∧ base ≤ g ∧ ∃ cur, w.heap[g]? = some (.cells cur t (0, 0)) := by
  rcases h with ⟨rfl, _⟩ | ⟨g', off, cap, cur, rfl, hb, hh, _⟩
  · cases hg
  · obtain rfl : g' = g := by simpa [Value.ownBlock] using hg
    exact ⟨(Array.getElem?_eq_some_iff.1 hh).1, hb, cur, hh⟩
theorem QR.weak {w : World} {t : TypeId} {b b' : Nat} {v : Value} {l : List ByteArray} (h : QR w t b v l) (hb : b' ≤ b) : QR w t b' v l := by
  rcases h with h | ⟨g, off, cap, cur, e, h1, r⟩
  · exact .inl h
  · exact .inr ⟨g, off, cap, cur, e, Nat.le_trans hb h1, r⟩
theorem QR.form {w : World} {t : TypeId} {base : Nat} {v : Value} {l : List ByteArray} (h : QR w t base v l) : ∃ a cap, v = .slice a l.length cap ∧ l.length ≤ cap ∧ cap ≤ maxLen ∧ StrRow w a l := by
  rcases h with ⟨rfl, rfl⟩ | ⟨g, off, cap, cur, rfl, hb, hh, _, h2, h3, h4⟩
  · exact ⟨none, 0, rfl, Nat.le_refl _, Nat.zero_le _, .inl rfl⟩
  · refine ⟨_, cap, rfl, h2, h3, .inr ⟨g, off, rfl, (Array.getElem?_eq_some_iff.1 hh).1, fun i hi => ?_⟩⟩
    simp [World.cell?, hh, h4 i hi]
theorem QR.below {w w' : World} {t : TypeId} {base n : Nat} {v : Value} {l : List ByteArray} (h : QR w t base v l) (hb : Below n w w') (hn : w.heap.size ≤ n) : QR w' t base v l :=
  h.keep fun g hg => hb.block g (Nat.lt_of_lt_of_le (h.lt hg).1 hn)
/-- One text more. -/
theorem append_q {P : Program} (w : World) (base : Nat) (t ty e : TypeId) (i : TypeInfo) (ht : P.underlying t = some (.slice e)) (hi : P.info? e = some i) (hz : i.zero = some (.string ⟨#[]⟩)) (hsize : i.size = 1) (hby : i.bytes = 16)
    (v : Value) (l : List ByteArray) (hq : QR w e base v l) (ad : Addr) (c : Nat) (s : ByteArray) (hs : ∀ j u, [Value.string s][j]? = some u → w.cell? (ad.add j) = some u) (hl : l.length ≤ 1000000000) (hbase : base ≤ w.heap.size) :
    ∃ v' w', (Builtin.append_ #[t, t] ty #[v, .slice (some ad) 1 c]).run P w = .ok v' w' ∧ QR w' e base v' (l ++ [s]) ∧ w.grownBy w' v.ownBlock ∧ ∀ b, v'.ownBlock = some b → v.ownBlock = some b ∨ w.heap.size ≤ b := by
  have h1 : ∀ u ∈ [Value.string s], u.oneCell' = true := by intro u hu; rw [List.mem_singleton.1 hu]; rfl
  have hown : ∀ v' w', w'.ownsRow w.heap.size e 1 v' (l.length + 1) (l.map Value.string ++ [.string s]) → QR w' e base v' (l ++ [s]) ∧ ∀ b, v'.ownBlock = some b → w.heap.size ≤ b := by
    intro v' w' ho
    rcases ho.2 with ⟨_, h0⟩ | ⟨g, cap, cur, rfl, hb, hh, h2, h3, h4, h5⟩
    · omega
    · refine ⟨.inr ⟨g, 0, cap, cur, by simp, Nat.le_trans hbase hb, hh, by omega, by simpa using h2, h3, fun k hk => ?_⟩, fun b hb2 => ?_⟩
      · have hk2 : k < l.length + 1 := by simpa using hk
        have e1 : cur.toList[k]? = (l.map Value.string ++ [Value.string s])[k]? := by
          rw [← h5, List.getElem?_take_of_lt (by omega)]
        rw [Nat.zero_add, ← Array.getElem?_toList, e1]
        by_cases hk3 : k < l.length
        · rw [List.getElem?_append_left (by simpa using hk3), List.getElem?_map, List.getD_eq_getElem?_getD, List.getElem?_append_left hk3, List.getElem?_eq_getElem hk3]; rfl
        · have : k = l.length := by omega
          subst this
          rw [List.getElem?_append_right (by simp), List.getD_eq_getElem?_getD, List.getElem?_append_right (Nat.le_refl _)]; simp
      · have : g = b := by simpa [Value.ownBlock] using hb2
        omega
  rcases hq with ⟨rfl, rfl⟩ | ⟨g, off, cap, cur, rfl, hb, hh, h2, h3, h4, h5⟩
  · obtain ⟨v', w', hr, ho, hg, _⟩ := run_append_own (P := P) w w.heap.size t ty e i (.string ⟨#[]⟩) 1 16 ht hi hz hsize hby rfl (by decide) _ 0 [] (World.ownsRow_nil w _ e 1) ad 1 c [.string s] rfl hs h1 (by unfold maxLen; omega) (by omega) (Nat.le_refl _)
    obtain ⟨q1, q2⟩ := hown v' w' ho
    exact ⟨v', w', hr, q1, hg, fun b hb => .inr (q2 b hb)⟩
  · by_cases hroom : l.length + 1 ≤ cap
    · have hf := run_firstCells_some (P := P) w i.size 1 ad 1 c [.string s] (by rw [hsize]; rfl) hs
      have hst := run_storeCells_at (P := P) g (off + l.length) e [.string s] 0 cur w hh (by simp; omega) h1
      simp only [Nat.add_zero, List.length_singleton] at hst
      have hr : (Builtin.append_ #[t, t] ty #[.slice (some ⟨g, off, none⟩) l.length cap, .slice (some ad) 1 c]).run P w = .ok (.slice (some ⟨g, off, none⟩) (l.length + 1) cap) (w.setRow g (cur.toList.take (off + l.length) ++ [Value.string s] ++ cur.toList.drop (off + l.length + 1)).toArray) := by
        rw [hsize] at hf
        simp [Builtin.append_, run_underlying ht, sizeOf, typeInfo, hi, Builtin.lenOf, hroom, hf, Addr.add_lit, hsize, hst]
      refine ⟨_, _, hr, .inr ⟨g, off, cap, _, by simp, hb, setRow_heap w g cur _ e _ hh, ?_, by simpa using hroom, h4, fun k hk => ?_⟩, ⟨rfl, rfl, rfl, by simp [World.setRow], fun k _ hk => setRow_other w g k _ (fun e => hk (by simp [Value.ownBlock, e]))⟩, fun b hb2 => .inl hb2⟩
      · simp; omega
      · have hk2 : k < l.length + 1 := by simpa using hk
        rw [← Array.getElem?_toList]
        by_cases hk3 : k < l.length
        · rw [List.append_assoc, List.getElem?_append_left (by simp; omega), List.getElem?_take_of_lt (by omega), Array.getElem?_toList, h5 k hk3, List.getD_eq_getElem?_getD, List.getD_eq_getElem?_getD, List.getElem?_append_left hk3]
        · have : k = l.length := by omega
          subst this
          rw [List.append_assoc, List.getElem?_append_right (by simp; omega)]
          have e0 : off + l.length - (cur.toList.take (off + l.length)).length = 0 := by simp; omega
          rw [e0, List.getD_eq_getElem?_getD, List.getElem?_append_right (Nat.le_refl _)]; simp
    · have holds : ∀ j u, (l.map Value.string)[j]? = some u → w.cell? ((⟨g, off, none⟩ : Addr).add j) = some u := by
        intro j u hu
        obtain ⟨hj, _⟩ := List.getElem?_eq_some_iff.1 hu
        rw [List.length_map] at hj
        have e1 : (⟨g, off, none⟩ : Addr).add j = ⟨g, off + j, none⟩ := by simp [Addr.add]
        rw [e1]
        have e2 : w.cell? ⟨g, off + j, none⟩ = cur[off + j]? := by simp [World.cell?, hh]
        rw [e2, h5 j hj, ← hu, List.getElem?_map, List.getD_eq_getElem?_getD, List.getElem?_eq_getElem hj]; rfl
      obtain ⟨v', w', hr, ho, hg⟩ := run_append_arg_grows (P := P) w t ty e i (.string ⟨#[]⟩) 1 16 ht hi hz hsize hby rfl (by decide) ⟨g, off, none⟩ l.length cap (l.map Value.string) (by simp) holds ad 1 c [.string s] rfl hs (by omega) (by unfold maxLen; omega) (by omega)
      obtain ⟨q1, q2⟩ := hown v' w' ho
      exact ⟨v', w', hr, q1, ⟨hg.os, hg.tape, hg.output, hg.size, fun k hk _ => hg.block k hk (by simp)⟩, fun b hb => .inr (q2 b hb)⟩
theorem wpList_append_q {P : Program} (w : World) {ops : Array Oper} {rest : List Oper} {o : Oper} {a : Act} {Q : Exit → Act → World → Prop} (hgd : o.guard = none) (sl x : Operand) (t : TypeId)
    (ho : o.op = .call { callee := .builtin .append, args := #[sl, x], argTypes := #[t, t] })
    (base : Nat) (e : TypeId) (i : TypeInfo) (ht : P.underlying t = some (.slice e)) (hi : P.info? e = some i) (hz : i.zero = some (.string ⟨#[]⟩)) (hsize : i.size = 1) (hby : i.bytes = 16)
    (v : Value) (l : List ByteArray) (hs : a.eval sl = v) (hq : QR w e base v l) (ad : Addr) (c : Nat) (s : ByteArray) (hx : a.eval x = .slice (some ad) 1 c) (hc : ∀ j u, [Value.string s][j]? = some u → w.cell? (ad.add j) = some u) (hl : l.length ≤ 1000000000) (hbase : base ≤ w.heap.size)
    (h : ∀ v' w', QR w' e base v' (l ++ [s]) → w.grownBy w' v.ownBlock → (∀ b, v'.ownBlock = some b → v.ownBlock = some b ∨ w.heap.size ≤ b) → wpList P ops Q rest (a.put o.dst v') w') : wpList P ops Q (o :: rest) a w := by
  refine wpList_plain hgd fun K hK => ?_
  obtain ⟨v', w', hr, h2, h3, h4⟩ := append_q (P := P) w base t o.type e i ht hi hz hsize hby v l hq ad c s hc hl hbase
  unfold Oper.wp
  simp [execOp, ho, resolve, invoke, builtin, hs, hx, hr, Result.andThen]
  exact hK _ _ (h v' w' h2 h3 h4)
theorem one_new (w : World) (t : TypeId) (s : ByteArray) : ∀ j u, [Value.string s][j]? = some u → (w.alloc (.cells #[.string s] t)).cell? ((⟨w.heap.size, 0, none⟩ : Addr).add j) = some u :=
  World.news_of_block (heap_alloc_new w (.cells #[.string s] t))
end Go.Pal
