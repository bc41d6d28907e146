/-
  A row of bytes that is the call's own, whose block may bear a mark behind its end (as '[]byte(s)' leaves it): 'append' of bytes onto it, and its text.
-/
import Derived.Test.YtggfmnmopfdiaaaGreatDoorIn2
import Derived.ArgAppend
import Derived.Lib.ConvBytes
import Derived.Lib.AppendZeros
namespace Go.Pal
open Go.Lib

/-- So many bytes lie in a block of the call's own. -/
def OwnB (w : World) (base : Nat) (e : TypeId) (v : Value) (l : List UInt8) : Prop :=
  ∃ g cap cur lo hi, v = .slice (some ⟨g, 0, none⟩) l.length cap ∧ base ≤ g ∧ w.heap[g]? = some (.cells cur e (lo, hi)) ∧ (hi = 0 ∨ cap ≤ lo) ∧ l.length ≤ cap ∧ cap ≤ maxLen ∧ cur.size = cap ∧ cur.toList.take l.length = l.map byteV

theorem setCells_row (g : Nat) (t : TypeId) (fr : Nat × Nat) : ∀ (vs : List Value) (o : Nat) (cur : Array Value) (w : World), w.heap[g]? = some (.cells cur t fr) → o + vs.length ≤ cur.size →
    (w.setCells g o vs).heap[g]? = some (.cells (cur.toList.take o ++ vs ++ cur.toList.drop (o + vs.length)).toArray t fr) ∧ w.grownBy (w.setCells g o vs) (some g)
  | [], o, cur, w, hg, h => by
    refine ⟨?_, World.grownBy.refl w _⟩
    have e : (cur.toList.take o ++ [] ++ cur.toList.drop (o + ([] : List Value).length)).toArray = cur := by simp
    rw [e]; exact hg
  | v :: vs, o, cur, w, hg, h => by
    have e1 := setCell_eq_setRow w g o cur t fr v hg
    have h1 : (w.setCell ⟨g, o, none⟩ v).heap[g]? = some (.cells (cur.setIfInBounds o v) t fr) := by rw [e1]; exact setRow_heap w g cur _ t fr hg
    have h2 := setCells_row g t fr vs (o + 1) (cur.setIfInBounds o v) (w.setCell ⟨g, o, none⟩ v) h1 (by simp at h ⊢; omega)
    refine ⟨?_, ?_⟩
    · show ((w.setCell ⟨g, o, none⟩ v).setCells g (o + 1) vs).heap[g]? = _
      rw [h2.1]
      have hlt : o < cur.toList.length := by simp at h ⊢; omega
      have e2 : (cur.setIfInBounds o v).toList = cur.toList.set o v := by simp
      have e3 : (cur.toList.set o v).take (o + 1) = cur.toList.take o ++ [v] := by
        rw [List.take_succ_eq_append_getElem (by simpa using hlt), List.take_set_of_le (Nat.le_refl _)]
        simp
      have e4 : (cur.toList.set o v).drop (o + 1 + vs.length) = cur.toList.drop (o + (v :: vs).length) := by
        rw [List.drop_set_of_lt (by omega)]
        congr 1
        simp; omega
      rw [e2, e3, e4]
      simp
    · have h3 : w.grownBy (w.setCell ⟨g, o, none⟩ v) (some g) := by
        rw [e1]; exact grown_row (World.grownBy.refl w _) _
      exact ⟨h2.2.os.trans h3.os, h2.2.tape.trans h3.tape, h2.2.output.trans h3.output, Nat.le_trans h3.size h2.2.size, fun k hk hne => (h2.2.block k (Nat.lt_of_lt_of_le hk h3.size) hne).trans (h3.block k hk hne)⟩

theorem OwnB.of {w : World} {base : Nat} {e : TypeId} {v : Value} {l : List UInt8} (h : w.ownsRow base e 1 v l.length (l.map byteV)) (hl : 0 < l.length) : OwnB w base e v l := by
  rcases h.2 with ⟨_, h0⟩ | ⟨g, cap, cur, hv, hb, hg, h1, h2, h3, h4⟩
  · omega
  · exact ⟨g, cap, cur, 0, 0, hv, hb, hg, .inl rfl, h1, h2, by omega, by rw [← h4, Nat.mul_one]⟩

/-- The conversion of a text. -/
theorem OwnB.conv (w : World) (base : Nat) (hb : base ≤ w.heap.size) (e : TypeId) (s : ByteArray) (hs : s.size ≤ maxLen) :
    OwnB (bytesWorld w e s) base e (.slice (some ⟨w.heap.size, 0, none⟩) s.size (grownCap w s.size 0 e)) s.data.toList := by
  have hge := grownCap_ge w s.size 0 e
  have hsz : (bytesCells w e s).size = grownCap w s.size 0 e := by simp [bytesCells]; omega
  refine ⟨w.heap.size, grownCap w s.size 0 e, bytesCells w e s, _, _, by simp, hb, bytesWorld_at_new w e s, .inr (by omega), by simpa using hge, grownCap_le_maxLen w s.size 0 e hs, hsz, ?_⟩
  simp [bytesCells, byteV]

theorem OwnB.cell {w : World} {base : Nat} {e : TypeId} {l : List UInt8} {g cap n : Nat} (h : OwnB w base e (.slice (some ⟨g, 0, none⟩) n cap) l) (j : Nat) (hj : j < l.length) : w.cell? ⟨g, j, none⟩ = some (byteV l[j]) := by
  obtain ⟨g', cap', cur, lo, hi, hv, _, hg, _, h1, _, h3, h4⟩ := h
  cases hv
  have e1 : w.cell? ⟨g, j, none⟩ = cur[j]? := by simp [World.cell?, hg]
  rw [e1, ← Array.getElem?_toList]
  have e2 : cur.toList[j]? = (cur.toList.take l.length)[j]? := by rw [List.getElem?_take_of_lt hj]
  rw [e2, h4]
  simp [hj]

theorem grown_some {w w' : World} (h : w.grownBy w' none) (g : Nat) : w.grownBy w' (some g) := ⟨h.os, h.tape, h.output, h.size, fun k hk _ => h.block k hk (by simp)⟩
theorem oneB (l : List UInt8) : ∀ u ∈ l.map byteV, u.oneCell' = true := by
  intro u hu
  obtain ⟨b, _, rfl⟩ := List.mem_map.1 hu
  rfl

/-- 'append' of bytes that lie in memory. -/
theorem run_appendB {P : Program} (w : World) (base : Nat) (hb : base ≤ w.heap.size) (t ty e : TypeId) (i : TypeInfo) (ht : P.underlying t = some (.slice e)) (hi : P.info? e = some i) (hz : i.zero = some (.int .u8 0)) (hs : i.size = 1) (hby : i.bytes = 1)
    (v : Value) (l : List UInt8) (h : OwnB w base e v l) (ad : Addr) (m c : Nat) (news : List UInt8) (hm : news.length = m) (hc : ∀ j u, (news.map byteV)[j]? = some u → w.cell? (ad.add j) = some u) (hbd : l.length + m ≤ 140737488355328) :
    ∃ v' w', (Builtin.append_ #[t, t] ty #[v, .slice (some ad) m c]).run P w = .ok v' w' ∧ OwnB w' base e v' (l ++ news) ∧ w.grownBy w' v.ownBlock := by
  have h0 := h
  obtain ⟨g, cap, cur, lo, hi', rfl, hbg, hg, hfz, h1, h2, h3, h4⟩ := h
  have hln : (news.map byteV).length = m * i.size := by rw [List.length_map, hs]; omega
  have hll : (l.map byteV).length = l.length * i.size := by rw [List.length_map, hs]; omega
  by_cases hr : l.length + m ≤ cap
  · have hrun := run_append_room_cells (P := P) w t ty e i ht hi g 0 l.length cap ad m c (news.map byteV) hln hc (oneB news) hr
      (fun j hj => by
        rw [List.length_map] at hj
        simp [World.cell?, hg]
        rw [hs]; omega)
      (fun j hj => by
        rw [List.length_map] at hj
        simp only [World.frozen?, hg, hs]
        rcases hfz with rfl | hlo
        · simp
        · simp; omega)
    rw [hs, Nat.mul_one, Nat.zero_add] at hrun
    obtain ⟨r1, r2⟩ := setCells_row g e (lo, hi') (news.map byteV) l.length cur w hg (by rw [List.length_map]; omega)
    refine ⟨_, _, hrun, ⟨g, cap, _, lo, hi', by rw [List.length_append, hm], hbg, r1, hfz, by rw [List.length_append]; omega, h2, ?_, ?_⟩, r2⟩
    · simp; omega
    · have hlt : (cur.toList.take l.length).length = l.length := by simp; omega
      rw [List.map_append, ← h4]
      show List.take _ (cur.toList.take l.length ++ news.map byteV ++ _) = _
      rw [List.take_append_of_le_length (by simp; omega), List.take_of_length_le (by simp; omega)]
  · obtain ⟨v', w', hrun, hown, hgr⟩ := run_append_arg_grows (P := P) w t ty e i (.int .u8 0) 1 1 ht hi hz hs hby rfl (by omega) ⟨g, 0, none⟩ l.length cap (l.map byteV) (by simp) (fun j u hj => by
        rw [List.getElem?_map] at hj
        have hjl : j < l.length := by
          rcases Nat.lt_or_ge j l.length with h' | h'
          · exact h'
          · simp [List.getElem?_eq_none h'] at hj
        have e1 := h0.cell j hjl
        simp [hjl] at hj
        rw [Addr.add_lit, Nat.zero_add, e1, hj]) ad m c (news.map byteV) (by simp [hm]) hc (by omega) (by unfold maxLen; omega) (by omega)
    rw [← List.map_append] at hown
    refine ⟨v', w', hrun, OwnB.of ?_ (by rw [List.length_append]; omega), grown_some hgr g⟩
    rw [List.length_append, hm]
    rcases hown.2 with ⟨_, h5⟩ | ⟨g2, cap2, cur2, k1, k2, k3⟩
    · omega
    · exact ⟨hown.1, .inr ⟨g2, cap2, cur2, k1, Nat.le_trans hb k2, k3⟩⟩

theorem zeroCells_u8 (m : Nat) : Builtin.zeroCells (Value.int .u8 0).cells m = ((List.replicate m (0 : UInt8)).map byteV).toArray := by
  apply Array.ext
  · simp [Builtin.zeroCells, Value.cells]
  · intro j h1 h2
    simp [Builtin.zeroCells, Value.cells, byteV, Nat.mod_one]

/-- 'append' of so many zeros. -/
theorem run_appendZ {P : Program} (w : World) (base : Nat) (hb : base ≤ w.heap.size) (t tn ty e : TypeId) (i : TypeInfo) (k kn : IntKind) (ht : P.underlying t = some (.slice e)) (htn : P.underlying tn = some (.int kn)) (hi : P.info? e = some i) (hz : i.zero = some (.int .u8 0)) (hs : i.size = 1) (hby : i.bytes = 1)
    (v : Value) (l : List UInt8) (h : OwnB w base e v l) (m : Nat) (hbd : l.length + m ≤ 140737488355328) :
    ∃ v' w', (Builtin.append_ #[t, tn] ty #[v, .int k m]).run P w = .ok v' w' ∧ OwnB w' base e v' (l ++ List.replicate m 0) ∧ w.grownBy w' v.ownBlock := by
  have h0 := h
  obtain ⟨g, cap, cur, lo, hi', rfl, hbg, hg, hfz, h1, h2, h3, h4⟩ := h
  have hw : IntKind.i64.wrap (m : Int) = m := by rw [IntKind.wrap_i64]; omega
  have hneg : ¬ ((m : Int) < 0) := by omega
  have h48 : ¬ (281474976710656 < (m : Int)) := by omega
  have hzc := zeroCells_u8 m
  by_cases hm0 : m = 0
  · subst hm0
    refine ⟨.slice (some ⟨g, 0, none⟩) (l.length + 0) cap, w, ?_, by simpa using h0, World.grownBy.refl w _⟩
    have hw0 : IntKind.i64.wrap 0 = 0 := by decide
    simp [Builtin.append_, run_underlying ht, run_underlying htn, sizeOf, typeInfo, hi, hby, asInt, asIntOf, h1, hw0, storeCells]
  by_cases hr : l.length + m ≤ cap
  · have hst := run_storeCells_cells (P := P) g (0 + l.length * i.size) ((List.replicate m (0 : UInt8)).map byteV) 0 w
      (fun j hj => by
        simp at hj
        simp [World.cell?, hg]
        rw [hs]; omega)
      (fun j hj => by
        simp at hj
        simp only [World.frozen?, hg, hs]
        rcases hfz with rfl | hlo
        · simp
        · simp; omega) (oneB _)
    rw [hs, Nat.mul_one, Nat.zero_add, Nat.add_zero] at hst
    obtain ⟨r1, r2⟩ := setCells_row g e (lo, hi') ((List.replicate m (0 : UInt8)).map byteV) l.length cur w hg (by simp; omega)
    have hrun : (Builtin.append_ #[t, tn] ty #[.slice (some ⟨g, 0, none⟩) l.length cap, .int k m]).run P w = .ok (.slice (some ⟨g, 0, none⟩) (l.length + m) cap) (w.setCells g l.length ((List.replicate m (0 : UInt8)).map byteV)) := by
      simp [Builtin.append_, run_underlying ht, run_underlying htn, sizeOf, typeInfo, zeroValue, hi, hz, hs, hby, asInt, asIntOf, hw, hneg, h48, hm0, hr, Addr.add_lit, hzc]
      rw [List.map_replicate] at hst
      rw [hst]
      rfl
    refine ⟨_, _, hrun, ⟨g, cap, _, lo, hi', by simp, hbg, r1, hfz, by simp; omega, h2, ?_, ?_⟩, r2⟩
    · simp; omega
    · have hlt : (cur.toList.take l.length).length = l.length := by simp; omega
      rw [List.map_append, ← h4]
      show List.take _ (cur.toList.take l.length ++ (List.replicate m (0 : UInt8)).map byteV ++ _) = _
      rw [List.take_append_of_le_length (by simp; omega), List.take_of_length_le (by simp; omega)]
  · have holds : ∀ j u, (l.map byteV)[j]? = some u → w.cell? ((⟨g, 0, none⟩ : Addr).add j) = some u := fun j u hj => by
      rw [List.getElem?_map] at hj
      have hjl : j < l.length := by
        rcases Nat.lt_or_ge j l.length with h' | h'
        · exact h'
        · simp [List.getElem?_eq_none h'] at hj
      have e1 := h0.cell j hjl
      simp [hjl] at hj
      rw [Addr.add_lit, Nat.zero_add, e1, hj]
    have hfo := run_firstCells_some (P := P) w.drew 1 l.length ⟨g, 0, none⟩ l.length cap (l.map byteV) (by simp) (by simpa using holds)
    have hfit := growslice_fits (old := cap) (need := l.length + m) (bytes := 1) (by omega) (by omega)
    have hfit' : ¬ (281474976710656 < Builtin.nextslicecap (l.length + m) cap) := by omega
    have h63 : ¬ (9223372036854775807 < (l.length : Int) + (m : Int)) := by omega
    have hge := grownCap_ge w (l.length + m) cap e
    have hcm : grownCap w (l.length + m) cap e ≤ maxLen := grownCap_le_maxLen w (l.length + m) cap e (by unfold maxLen; omega)
    have hrun : (Builtin.append_ #[t, tn] ty #[.slice (some ⟨g, 0, none⟩) l.length cap, .int k m]).run P w = .ok (.slice (some ⟨w.heap.size, 0, none⟩) (l.length + m) (grownCap w (l.length + m) cap e))
        (w.drew.alloc (.cells ((l.map byteV).toArray ++ (((List.replicate m (0 : UInt8)).map byteV).toArray ++ Builtin.zeroCells (Value.int .u8 0).cells (grownCap w (l.length + m) cap e - (l.length + m)))) e)) := by
      rw [← hzc]
      simp [Builtin.append_, run_underlying ht, run_underlying htn, sizeOf, typeInfo, zeroValue, hi, hz, hs, hby, asInt, asIntOf, hw, hneg, h48, hm0, hr, h63, hfit', Question.forced, hfo, newRow, grownCap]
    refine ⟨_, _, hrun, ⟨w.heap.size, _, _, 0, 0, by simp, hb, heap_alloc_new w.drew _, .inl rfl, by simpa using hge, hcm, ?_, ?_⟩, ⟨rfl, rfl, rfl, by simp, fun k hk _ => heap_alloc_old w.drew _ hk⟩⟩
    · rw [zeroCells_u8]; simp; omega
    · rw [zeroCells_u8, List.map_append, Array.toList_append, Array.toList_append, ← List.append_assoc, List.take_append_of_le_length (by simp), List.take_of_length_le (by simp)]

/-! For the walk. -/
theorem wpList_appendB {P : Program} (w : World) {ops : Array Oper} {rest : List Oper} {o : Oper} {a : Act} {Q : Exit → Act → World → Prop} (hgd : o.guard = none) (s x : Operand) (t : TypeId)
    (ho : o.op = .call { callee := .builtin .append, args := #[s, x], argTypes := #[t, t] }) (base : Nat) (hb : base ≤ w.heap.size) (e : TypeId) (i : TypeInfo) (ht : P.underlying t = some (.slice e)) (hi : P.info? e = some i) (hz : i.zero = some (.int .u8 0)) (hs : i.size = 1) (hby : i.bytes = 1)
    (v : Value) (l : List UInt8) (hv : a.eval s = v) (h : OwnB w base e v l) (ad : Addr) (m c : Nat) (news : List UInt8) (hx : a.eval x = .slice (some ad) m c) (hm : news.length = m) (hc : ∀ j u, (news.map byteV)[j]? = some u → w.cell? (ad.add j) = some u) (hbd : l.length + m ≤ 140737488355328)
    (hK : ∀ v' w', OwnB w' base e v' (l ++ news) → w.grownBy w' v.ownBlock → wpList P ops Q rest (a.put o.dst v') w') : wpList P ops Q (o :: rest) a w := by
  obtain ⟨v', w', hr, h1, h2⟩ := run_appendB (P := P) w base hb t o.type e i ht hi hz hs hby v l h ad m c news hm hc hbd
  exact wpList_append_run w hgd s x t t ho v _ hv hx v' w' hr (hK v' w' h1 h2)

theorem wpList_appendZ {P : Program} (w : World) {ops : Array Oper} {rest : List Oper} {o : Oper} {a : Act} {Q : Exit → Act → World → Prop} (hgd : o.guard = none) (s x : Operand) (t tn : TypeId)
    (ho : o.op = .call { callee := .builtin .append, args := #[s, x], argTypes := #[t, tn] }) (base : Nat) (hb : base ≤ w.heap.size) (e : TypeId) (i : TypeInfo) (k kn : IntKind) (ht : P.underlying t = some (.slice e)) (htn : P.underlying tn = some (.int kn)) (hi : P.info? e = some i) (hz : i.zero = some (.int .u8 0)) (hs : i.size = 1) (hby : i.bytes = 1)
    (v : Value) (l : List UInt8) (hv : a.eval s = v) (h : OwnB w base e v l) (m : Nat) (hx : a.eval x = .int k m) (hbd : l.length + m ≤ 140737488355328)
    (hK : ∀ v' w', OwnB w' base e v' (l ++ List.replicate m 0) → w.grownBy w' v.ownBlock → wpList P ops Q rest (a.put o.dst v') w') : wpList P ops Q (o :: rest) a w := by
  obtain ⟨v', w', hr, h1, h2⟩ := run_appendZ (P := P) w base hb t tn o.type e i k kn ht htn hi hz hs hby v l h m hbd
  exact wpList_append_run w hgd s x t tn ho v _ hv hx v' w' hr (hK v' w' h1 h2)

end Go.Pal
namespace Go.Proofs.YtggfmnmopfdiaaaGreatDoor
open Go.RowKit Go.Pal
/-- The text of a row of the call's own. -/
theorem conv_ownB (w : World) (base : Nat) (v : Value) (l : List UInt8) (hown : OwnB w base 5 v l) :
    (convert 79 9 v).run Tryz.prog w = .ok (.string ⟨l.toArray⟩) w := by
  have h0 := hown
  obtain ⟨g, cap, cur, lo, hi, rfl, _⟩ := hown
  have h := run_convert_bytes_arg (P := Tryz.prog) w 79 5 Tryz.underlying79 Tryz.underlying5 g 0 l.length cap (l.map fun b => (b.toNat : Int)) (by simp) (fun i hi => by
      rw [Nat.zero_add, h0.cell i (by omega)]
      simp [hi, byteV]) 9 Tryz.underlying9
  rw [h, nums_bytes]
end Go.Proofs.YtggfmnmopfdiaaaGreatDoor
