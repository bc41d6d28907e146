/-
  A map with texts as its keys, said as a function of the key: read, written, ranged over. No program in sight.
-/
import Derived.Test.YtabongfoeoideaaRows
import Derived.Maps.RangeWalk
import Derived.Maps.OwnSet
import Derived.Maps.Own
import Derived.WalkKit
namespace Go.Pal
open Go.RowKit Go.Maps

def hvV (v : Value) : Option (DataW Value × List MemPlace) := some (.held v, [])
def kS (s : ByteArray) : Lit := .string s.data.toList
theorem kS_inj {a b : ByteArray} (h : kS a = kS b) : a = b := by
  injection h with h
  rw [ByteArray.ext_iff]; exact Array.ext' h
theorem kS_key (s : ByteArray) : WideAt.IsKeyLit (kS s) := trivial
/-- What a map holds, key by key. -/
def Holds (D : DataW Value) (f : ByteArray → Option Value) : Prop := ∀ s, Maps.has D (kS s) = (f s).isSome ∧ ∀ v, f s = some v → ∀ z, D.atKey (kS s) z = .held v
/-- Block b is a map of just n entries, which holds f. -/
def MapF (P : Program) (k : TypeId) (w : World) (b n : Nat) (f : ByteArray → Option Value) : Prop :=
  ∃ D : DataW Value, w.ownsMap P k hvV b n D ∧ Maps.size D = n ∧ Holds D f
/-- A key more. -/
def putF (f : ByteArray → Option Value) (s : ByteArray) (v : Value) : ByteArray → Option Value := fun x => if x = s then some v else f x
def delF (f : ByteArray → Option Value) (s : ByteArray) : ByteArray → Option Value := fun x => if x = s then none else f x
theorem exact_bound {P : Program} {k : TypeId} {w : World} {b n : Nat} {D : DataW Value} (h : w.ownsMap P k hvV b n D) : w.ownsMap P k hvV b (Maps.size D) D := by
  obtain ⟨es, clock, hb, F, hs, rfl⟩ := h
  exact ⟨es, clock, hb, F, by simp [Maps.size, length_sorted], rfl⟩
theorem keyOf_inv {P : Program} {k : TypeId} (hk : P.underlying k = some .string) {key : Value} {kl : Lit} (h : keyOf P k key = some kl) : ∃ s : ByteArray, key = .string s ∧ kl = kS s ∧ s.size ≤ maxLen := by
  cases key <;> simp [keyOf, hk, mapKey] at h
  obtain ⟨hw, rfl⟩ := h
  exact ⟨_, rfl, rfl, hw⟩
section
variable {P : Program} {k e t : TypeId} {w : World} {b n : Nat} {f : ByteArray → Option Value}
theorem MapF.lt (h : MapF P k w b n f) : b < w.heap.size := by obtain ⟨D, ho, _⟩ := h; exact ho.lt
theorem MapF.keep {w' : World} (h : MapF P k w b n f) (hk : w'.heap[b]? = w.heap[b]?) : MapF P k w' b n f := by
  obtain ⟨D, ⟨es, clock, hb, F, hs, hD⟩, r⟩ := h
  exact ⟨D, ⟨es, clock, hk.trans hb, F, hs, hD⟩, r⟩
theorem MapF.same {g : ByteArray → Option Value} (h : MapF P k w b n f) (hg : ∀ s, g s = f s) : MapF P k w b n g := by
  have : g = f := funext hg
  rw [this]; exact h
theorem MapF.made (w : World) (P : Program) (k : TypeId) : MapF P k (w.alloc (.map #[] 0)) w.heap.size 0 (fun _ => none) :=
  ⟨.map [], World.ownsMap_made w P k hvV, rfl, fun s => ⟨rfl, fun v h => by cases h⟩⟩
theorem MapF.made' (w : World) (P : Program) (k : TypeId) {b : Nat} (hb : b = w.heap.size) : MapF P k (w.alloc (.map #[] 0)) b 0 (fun _ => none) := by
  subst hb; exact MapF.made w P k
/-- The map's block is a map's. -/
theorem MapF.obj (h : MapF P k w b n f) : ∃ es clock, w.heap[b]? = some (.map es clock) := by
  obtain ⟨D, ⟨es, clock, hb, _⟩, _⟩ := h; exact ⟨es, clock, hb⟩
theorem MapF.len (h : MapF P k w b n f) (ht : P.underlying t = some (.map k e)) (ty : TypeId) : (Builtin.len_ #[t] ty #[.map (some b)]).run P w = .ok (.int .i64 (n : Int)) w := by
  obtain ⟨D, ho, hs, _⟩ := h
  have := ho.len ht ty
  rw [hs] at this; exact this
/-- An entry there is: there is at least one. -/
theorem MapF.pos (h : MapF P k w b n f) {s : ByteArray} (hs : (f s).isSome = true) : 0 < n := by
  obtain ⟨D, ho, hz, hh⟩ := h
  have h1 := (hh s).1
  rw [hs] at h1
  obtain ⟨es, rfl⟩ := ho.isMap
  cases es with
  | nil => simp [Maps.has] at h1
  | cons a r => simp [Maps.size] at hz; omega
theorem MapF.zero (h : MapF P k w b 0 f) (s : ByteArray) : f s = none := by
  cases hs : f s with
  | none => rfl
  | some v => exact absurd (h.pos (s := s) (by rw [hs]; rfl)) (Nat.lt_irrefl 0)
theorem MapF.lookup (h : MapF P k w b n f) (hk : P.underlying k = some .string) (ht : P.underlying t = some (.map k e)) {z : Value} (hz : (zeroValue e).run P w = .ok z w) {s : ByteArray} (hs : s.size ≤ maxLen) :
    (Instr.lookup t (.map (some b)) (.string s) false).run P w = .ok ((f s).getD z) w := by
  obtain ⟨D, ho, _, hh⟩ := h
  obtain ⟨v, ps, hrun, hv⟩ := ho.lookup (string_keyed hk) ht hz (zd := .held z) (zp := []) rfl (WideMaps.keyOf_string_mk hk hs)
  rw [hrun]
  simp only [hvV, Option.some.injEq, Prod.mk.injEq] at hv
  cases hf : f s with
  | none =>
    have h1 := (hh s).1
    rw [hf] at h1
    have h2 := Maps.atKey_of_not_has h1 (.held z)
    have h3 := hv.1.trans h2
    injection h3 with h3
    rw [h3]; rfl
  | some x =>
    have h2 := (hh s).2 x hf (.held z)
    have h3 := hv.1.trans h2
    injection h3 with h3
    rw [h3]; rfl
theorem MapF.look_ok (h : MapF P k w b n f) (hk : P.underlying k = some .string) (ht : P.underlying t = some (.map k e)) {z : Value} (hz : (zeroValue e).run P w = .ok z w) {s : ByteArray} (hs : s.size ≤ maxLen) :
    (Instr.lookup t (.map (some b)) (.string s) true).run P w = .ok (.tuple #[(f s).getD z, .bool (f s).isSome]) w := by
  obtain ⟨D, ho, _, hh⟩ := h
  obtain ⟨v, ps, hrun, hv⟩ := ho.look_ok (string_keyed hk) ht hz (zd := .held z) (zp := []) rfl (WideMaps.keyOf_string_mk hk hs)
  rw [hrun, show Maps.has D (Lit.string s.data.toList) = (f s).isSome from (hh s).1]
  simp only [hvV, Option.some.injEq, Prod.mk.injEq] at hv
  cases hf : f s with
  | none =>
    have h1 := (hh s).1
    rw [hf] at h1
    have h2 := Maps.atKey_of_not_has h1 (.held z)
    have h3 := hv.1.trans h2
    injection h3 with h3
    rw [h3]; rfl
  | some x =>
    have h2 := (hh s).2 x hf (.held z)
    have h3 := hv.1.trans h2
    injection h3 with h3
    rw [h3]; rfl
theorem holds_put {D : DataW Value} (hm : Maps.IsMap D) (h : Holds D f) (s : ByteArray) (v : Value) : Holds (D.put (kS s) (.held v)) (putF f s v) := by
  intro x
  by_cases e : x = s
  · subst e
    refine ⟨by rw [Maps.has_put_same hm (kS_key x)]; simp [putF], fun v' hv' z => ?_⟩
    simp [putF] at hv'
    subst hv'
    exact Maps.atKey_put_same hm (kS_key x) _ z
  · have hne : kS x ≠ kS s := fun h => e (kS_inj h)
    refine ⟨by rw [Maps.has_put_other hne]; simp [putF, e, (h x).1], fun v' hv' z => ?_⟩
    rw [Maps.atKey_put_other hne]
    simp [putF, e] at hv'
    exact (h x).2 v' hv' z
theorem holds_del {D : DataW Value} (h : Holds D f) (s : ByteArray) : Holds (D.del (kS s)) (delF f s) := by
  intro x
  by_cases e : x = s
  · subst e
    exact ⟨by rw [Maps.has_del_same]; simp [delF], fun v' hv' z => by simp [delF] at hv'⟩
  · have hne : kS x ≠ kS s := fun h => e (kS_inj h)
    refine ⟨by rw [Maps.has_del_other hne]; simp [delF, e, (h x).1], fun v' hv' z => ?_⟩
    rw [Maps.atKey_del_other hne]
    simp [delF, e] at hv'
    exact (h x).2 v' hv' z
theorem MapF.update (h : MapF P k w b n f) (hk : P.underlying k = some .string) (ht : P.underlying t = some (.map k e)) (hn : n < maxLen) {s : ByteArray} (hs : s.size ≤ maxLen) (v : Value) :
    ∃ w', (Instr.mapUpdate t (.map (some b)) (.string s) v).run P w = .ok () w' ∧ MapF P k w' b (if (f s).isSome then n else n + 1) (putF f s v) ∧ w.mapTurned w' b := by
  obtain ⟨D, ho, hz, hh⟩ := h
  have K := string_keyed hk
  obtain ⟨w', hr, h1, h2⟩ := ho.store K ht hn (WideMaps.keyOf_string_mk hk hs) (show hvV v = some (.held v, []) from rfl)
  have hsz := Maps.size_put (k := kS s) (ho.tidy K) (.held v)
  rw [(hh s).1, hz] at hsz
  refine ⟨w', hr, ⟨_, ?_, hsz, holds_put ho.isMap hh s v⟩, h2⟩
  have := exact_bound h1
  rw [show D.put (Lit.string s.data.toList) (.held v) = D.put (kS s) (.held v) from rfl, hsz] at this
  exact this
theorem MapF.drop (h : MapF P k w b n f) (hk : P.underlying k = some .string) (ht : P.underlying t = some (.map k e)) {s : ByteArray} (hs : s.size ≤ maxLen) (ty : TypeId) :
    ∃ w', (Builtin.delete_ #[t, k] ty #[.map (some b), .string s]).run P w = .ok (.tuple #[]) w' ∧ MapF P k w' b (if (f s).isSome then n - 1 else n) (delF f s) ∧ w.mapTurned w' b := by
  obtain ⟨D, ho, hz, hh⟩ := h
  have K := string_keyed hk
  obtain ⟨w', hr, h1, h2⟩ := ho.drop K ht (WideMaps.keyOf_string_mk hk hs) ty
  have hsz := Maps.size_del (k := kS s) (ho.tidy K)
  rw [(hh s).1, hz] at hsz
  have hsz2 : Maps.size (D.del (kS s)) = if (f s).isSome then n - 1 else n := by split at hsz <;> simp_all <;> omega
  refine ⟨w', hr, ⟨_, ?_, hsz2, holds_del hh s⟩, h2⟩
  have := exact_bound h1
  rw [show D.del (Lit.string s.data.toList) = D.del (kS s) from rfl, hsz2] at this
  exact this
/-- A range over such a map, under way: left: whose entries are still to come. -/
def RangeF (P : Program) (k : TypeId) (w : World) (b r n : Nat) (f : ByteArray → Option Value) (left : ByteArray → Bool) (cnt : Nat) : Prop :=
  ∃ (D : DataW Value) (L : Lit → Bool), w.ranges P k hvV b r n D L cnt ∧ Maps.size D = n ∧ Holds D f ∧ ∀ s, L (kS s) = left s
theorem RangeF.map {r : Nat} {left : ByteArray → Bool} {cnt : Nat} (h : RangeF P k w b r n f left cnt) : MapF P k w b n f := by
  obtain ⟨D, L, h1, h2, h3, _⟩ := h
  exact ⟨D, h1.owns, h2, h3⟩
theorem RangeF.lt {r : Nat} {left : ByteArray → Bool} {cnt : Nat} (h : RangeF P k w b r n f left cnt) : r < w.heap.size := by
  obtain ⟨D, L, h1, _⟩ := h; exact h1.lt
theorem RangeF.ne {r : Nat} {left : ByteArray → Bool} {cnt : Nat} (h : RangeF P k w b r n f left cnt) : r ≠ b := by
  obtain ⟨D, L, h1, _⟩ := h; exact h1.ne
theorem RangeF.left_eq {r : Nat} {left : ByteArray → Bool} {cnt : Nat} (h : RangeF P k w b r n f left cnt) : w.rangeLeft b r = cnt := by
  obtain ⟨D, L, h1, _⟩ := h; exact h1.left_eq
theorem RangeF.keep {w' : World} {r : Nat} {left : ByteArray → Bool} {cnt : Nat} (h : RangeF P k w b r n f left cnt) (hb : w'.heap[b]? = w.heap[b]?) (hr : w'.heap[r]? = w.heap[r]?) : RangeF P k w' b r n f left cnt := by
  obtain ⟨D, L, ⟨es, clock, since, seen, c0, q1, q2, q3, q4, q5, q6⟩, r1⟩ := h
  exact ⟨D, L, ⟨es, clock, since, seen, c0, hb.trans q1, q2, q3, q4, hr.trans q5, q6⟩, r1⟩
theorem RangeF.there {r : Nat} {left : ByteArray → Bool} {cnt : Nat} (h : RangeF P k w b r n f left cnt) {s : ByteArray} (hs : left s = true) : (f s).isSome = true := by
  obtain ⟨D, L, h1, h2, h3, h4⟩ := h
  rw [← (h3 s).1]
  rw [← h4 s] at hs
  obtain ⟨es, clock, since, seen, c0, q1, F, q3, rfl, q5, q6, q7, q8, q9, _⟩ := h1
  obtain ⟨x, hx, e1⟩ := q9 _ hs
  exact List.any_eq_true.2 ⟨WideElems.rg P k hvV x, mem_sorted.2 (List.mem_map.2 ⟨x, hx, rfl⟩), by rw [e1]; exact WideAt.sameKey_self (kS_key s)⟩
theorem RangeF.obj {r : Nat} {left : ByteArray → Bool} {cnt : Nat} (h : RangeF P k w b r n f left cnt) : ∃ q1 q2 q3 q4, w.heap[r]? = some (.mapIter q1 q2 q3 q4) := by
  obtain ⟨D, L, ⟨es, clock, since, seen, c0, q1, q2, q3, q4, q5, q6⟩, r1⟩ := h
  exact ⟨_, _, _, _, q5⟩
theorem MapF.range (h : MapF P k w b n f) (hk : P.underlying k = some .string) (ht : P.underlying t = some (.map k e)) :
    ∃ w', (Instr.range t (.map (some b))).run P w = .ok (.pointer (some ⟨w.heap.size, 0, none⟩)) w' ∧ RangeF P k w' b w.heap.size n f (fun s => (f s).isSome) n ∧ w.grownBy w' none ∧ w'.heap.size = w.heap.size + 1 := by
  obtain ⟨D, ho, hz, hh⟩ := h
  obtain ⟨w', h1, h2, h3, h4⟩ := ho.range (string_keyed hk) ht
  rw [hz] at h2
  exact ⟨w', h1, ⟨D, _, h2, hz, hh, fun s => (hh s).1⟩, h3, h4⟩
theorem RangeF.next {r : Nat} {left : ByteArray → Bool} {cnt : Nat} (h : RangeF P k w b r n f left cnt) (hk : P.underlying k = some .string) (ty : TypeId) :
    (cnt = 0 ∧ (∀ s, left s = false) ∧ (Instr.next (.pointer (some ⟨r, 0, none⟩)) false ty).run P w = .ok (.tuple #[.bool false]) w) ∨
    ∃ (s : ByteArray) (v : Value) (w' : World) (cnt' : Nat), s.size ≤ maxLen ∧ left s = true ∧ f s = some v ∧ (Instr.next (.pointer (some ⟨r, 0, none⟩)) false ty).run P w = .ok (.tuple #[.bool true, .string s, v]) w' ∧
      RangeF P k w' b r n f (fun x => left x && !decide (x = s)) cnt' ∧ cnt' < cnt ∧ w.grownBy w' (some r) ∧ w'.heap.size = w.heap.size ∧ (Instr.entry (.pointer (some ⟨r, 0, none⟩))).run P w' = .ok (.tuple #[.string s, v]) w' := by
  have hthere := fun s => h.there (s := s)
  obtain ⟨D, L, h1, h2, h3, h4⟩ := h
  rcases h1.next (string_keyed hk) ty with ⟨q1, q2, q3⟩ | ⟨key, v, kl, y, w', cnt', q1, q2, q3, q4, q5, q6, q7, q8, q9, q10⟩
  · exact .inl ⟨q1, fun s => by rw [← h4 s]; exact q2 _, q3⟩
  · obtain ⟨s, rfl, rfl, hs⟩ := keyOf_inv hk q1
    have hl : left s = true := by rw [← h4 s]; exact q2
    have hf := hthere s hl
    obtain ⟨x, hx⟩ := Option.isSome_iff_exists.1 hf
    have hxv : x = v := by
      have e1 := (h3 s).2 x hx .nil
      rw [q4 .nil] at e1
      unfold hvV at q3
      have e3 := Option.some.inj q3
      have e4 : (DataW.held v : DataW Value) = y.1 := congrArg Prod.fst e3
      rw [← e4] at e1
      injection e1 with e1
      exact e1.symm
    refine .inr ⟨s, v, w', cnt', hs, hl, by rw [hx, hxv], q5, ⟨D, _, q6, h2, h3, fun z => ?_⟩, q7, q8, q9, q10⟩
    rw [h4 z]
    congr 1
    by_cases e : z = s
    · subst e; simp [WideAt.sameKey_self (kS_key z)]
    · simp [e, Maps.sameKey_ne (fun h => e (kS_inj h))]
end
/-! ### at the operation, for the walk -/
section
variable {P : Program} (w : World) {ops : Array Oper} {rest : List Oper} {o : Oper} {a : Act} {Q : Exit → Act → World → Prop}
theorem wpList_range_F (hg : o.guard = none) (m : Operand) (t : TypeId) (hop : o.op = Op.range t m) (k e : TypeId) (hk : P.underlying k = some .string) (ht : P.underlying t = some (.map k e)) (b n : Nat) (f : ByteArray → Option Value)
    (hm : a.eval m = .map (some b)) (hown : MapF P k w b n f)
    (hK : ∀ w', RangeF P k w' b w.heap.size n f (fun s => (f s).isSome) n → w.grownBy w' none → w'.heap.size = w.heap.size + 1 → wpList P ops Q rest (a.put o.dst (.pointer (some ⟨w.heap.size, 0, none⟩))) w') :
    wpList P ops Q (o :: rest) a w := by
  refine wpList_plain hg fun K' hK' => ?_
  obtain ⟨w', hrun, r1, r2, r3⟩ := hown.range hk ht
  unfold Oper.wp
  simp [execOp, hop, hm, hrun, Result.andThen]
  exact hK' _ _ (hK w' r1 r2 r3)
theorem wpList_next_F (hg : o.guard = none) (it : Operand) (hop : o.op = Op.next it false) (k : TypeId) (hk : P.underlying k = some .string) (b r n : Nat) (f : ByteArray → Option Value) (left : ByteArray → Bool) (cnt : Nat)
    (hit : a.eval it = .pointer (some ⟨r, 0, none⟩)) (h : RangeF P k w b r n f left cnt)
    (hDone : cnt = 0 → (∀ s, left s = false) → wpList P ops Q rest (a.put o.dst (.tuple #[.bool false])) w)
    (hMore : ∀ (s : ByteArray) (v : Value) (w' : World) (cnt' : Nat), s.size ≤ maxLen → left s = true → f s = some v → RangeF P k w' b r n f (fun x => left x && !decide (x = s)) cnt' → cnt' < cnt →
      w.grownBy w' (some r) → w'.heap.size = w.heap.size → (Instr.entry (.pointer (some ⟨r, 0, none⟩))).run P w' = .ok (.tuple #[.string s, v]) w' → wpList P ops Q rest (a.put o.dst (.tuple #[.bool true, .string s, v])) w') :
    wpList P ops Q (o :: rest) a w := by
  refine wpList_plain hg fun K' hK' => ?_
  unfold Oper.wp
  rcases h.next hk o.type with ⟨h0, hl, hrun⟩ | ⟨s, v, w', cnt', q1, q2, q3, hrun, q4, q5, q6, q7, q8⟩
  · simp [execOp, hop, hit, hrun, Result.andThen]
    exact hK' _ _ (hDone h0 hl)
  · simp [execOp, hop, hit, hrun, Result.andThen]
    exact hK' _ _ (hMore s v w' cnt' q1 q2 q3 q4 q5 q6 q7 q8)
theorem wpList_mapUpdate_F (hg : o.guard = none) (m x v : Operand) (t : TypeId) (hop : o.op = Op.mapUpdate t m x v) (k e : TypeId) (hk : P.underlying k = some .string) (ht : P.underlying t = some (.map k e)) (b n : Nat) (f : ByteArray → Option Value)
    (hm : a.eval m = .map (some b)) (hown : MapF P k w b n f) (hn : n < maxLen) (s : ByteArray) (hs : s.size ≤ maxLen) (val : Value) (hx : a.eval x = .string s) (hv : a.eval v = val)
    (hK : ∀ w', MapF P k w' b (if (f s).isSome then n else n + 1) (putF f s val) → w.mapTurned w' b → wpList P ops Q rest (a.put o.dst undef) w') :
    wpList P ops Q (o :: rest) a w := by
  refine wpList_plain hg fun K' hK' => ?_
  obtain ⟨w', hrun, r1, r2⟩ := hown.update hk ht hn hs val
  unfold Oper.wp
  simp [execOp, hop, hm, hx, hv, hrun, Result.andThen]
  exact hK' _ _ (hK w' r1 r2)
theorem wpList_delete_F (hg : o.guard = none) (m x : Operand) (t k : TypeId) (hop : o.op = Op.call { callee := Callee.builtin Builtin.delete, args := #[m, x], argTypes := #[t, k] })
    (e : TypeId) (hk : P.underlying k = some .string) (ht : P.underlying t = some (.map k e)) (b n : Nat) (f : ByteArray → Option Value)
    (hm : a.eval m = .map (some b)) (hown : MapF P k w b n f) (s : ByteArray) (hs : s.size ≤ maxLen) (hx : a.eval x = .string s)
    (hK : ∀ w', MapF P k w' b (if (f s).isSome then n - 1 else n) (delF f s) → w.mapTurned w' b → wpList P ops Q rest (a.put o.dst (.tuple #[])) w') :
    wpList P ops Q (o :: rest) a w := by
  refine wpList_plain hg fun K' hK' => ?_
  obtain ⟨w', hrun, r1, r2⟩ := hown.drop hk ht hs o.type
  unfold Oper.wp
  simp [execOp, hop, resolve, invoke, builtin, hm, hx, hrun, Result.andThen]
  exact hK' _ _ (hK w' r1 r2)
end
end Go.Pal
