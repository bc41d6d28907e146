/-
  Contracts of package wait: Come.
-/
import Derived.Test.YtalpmnmpggljcaaWa2
namespace Go.Pal
open Go.RowKit
/-- An id has come: for what each still waits. -/
def Wt.came (s : ByteArray) (x : Wt) : Wt := { x with miss := strike x.miss s }
def stays (x : Wt) : Bool := !x.miss.isEmpty
def stayW (s : ByteArray) (l : List Wt) : List Wt := (l.map (Wt.came s)).filter stays
def leftW (s : ByteArray) (l : List Wt) : List Wt := (l.map (Wt.came s)).filter (fun x => !stays x)
def cellsG : List Wt → List Value
  | [] => []
  | f :: r => [.string f.id, .string f.text] ++ cellsG r
theorem cellsG_length : ∀ l : List Wt, (cellsG l).length = l.length * 2
  | [] => rfl
  | f :: r => by simp only [cellsG, List.length_append, List.length_cons, List.length_nil, cellsG_length r]; omega
theorem cellsG_append : ∀ l m : List Wt, cellsG (l ++ m) = cellsG l ++ cellsG m
  | [], m => rfl
  | f :: r, m => by simp [cellsG, cellsG_append r m]
theorem cellsG_get : ∀ (l : List Wt) (i : Nat) (hi : i < l.length), (cellsG l)[i * 2]? = some (.string l[i].id) ∧ (cellsG l)[i * 2 + 1]? = some (.string l[i].text)
  | f :: r, 0, _ => by simp [cellsG]
  | f :: r, i + 1, hi => by
    simp only [cellsG]
    rw [List.getElem?_append_right (by simp; omega), List.getElem?_append_right (by simp; omega)]
    have := cellsG_get r i (by simpa using hi)
    rw [show (i + 1) * 2 - [Value.string f.id, Value.string f.text].length = i * 2 by simp; omega, show (i + 1) * 2 + 1 - [Value.string f.id, Value.string f.text].length = i * 2 + 1 by simp; omega]
    simpa using this
theorem stayW_snoc (s : ByteArray) (l : List Wt) (x : Wt) : stayW s (l ++ [x]) = stayW s l ++ if stays (x.came s) then [x.came s] else [] := by
  unfold stayW; simp only [List.map_append, List.map_cons, List.map_nil, List.filter_append]
  congr 1; cases h : stays (x.came s) <;> simp [h]
theorem leftW_snoc (s : ByteArray) (l : List Wt) (x : Wt) : leftW s (l ++ [x]) = leftW s l ++ if stays (x.came s) then [] else [x.came s] := by
  unfold leftW; simp only [List.map_append, List.map_cons, List.map_nil, List.filter_append]
  congr 1; cases h : stays (x.came s) <;> simp [h]
theorem stayW_le (s : ByteArray) (l : List Wt) : (stayW s l).length ≤ l.length := by
  unfold stayW; have := List.length_filter_le stays (l.map (Wt.came s)); simpa using this
theorem leftW_le (s : ByteArray) (l : List Wt) : (leftW s l).length ≤ l.length := by
  unfold leftW; have := List.length_filter_le (fun x => !stays x) (l.map (Wt.came s)); simpa using this
end Go.Pal
namespace Go.Proofs.Ytalpmnmpggljcaa
open Go.RowKit Go.Pal
set_option linter.unusedVariables false

set_option maxHeartbeats 400000 in
theorem wcome_nil (w : World) (id : ByteArray) : Calls Try.prog 40 #[.pointer none, .string id] w fun e w' => e = .returned (.slice none 0 0) ∧ w' = w := by
  go_enter Try.func40, Try.ntmps40
  go_wp2
  go_ret
  exact ⟨rfl, rfl⟩
/-- Come, behind k of those that wait (km: of how many the maps have turned). -/
structure Cm (w wr : World) (ws : List Wt) (id : ByteArray) (k km : Nat) (v5 v6 : Value) : Prop where
  got : wr.ownsRow w.heap.size 70 2 v5 (leftW id (ws.take k)).length (cellsG (leftW id (ws.take k)))
  stay : wr.ownsRow w.heap.size 100 3 v6 (stayW id (ws.take k)).length (cellsW (stayW id (ws.take k)))
  maps : ∀ i (hi : i < ws.length), MapF Try.prog 9 wr ws[i].mb (if i < km then (ws[i].came id).miss else ws[i].miss).length (setL (if i < km then (ws[i].came id).miss else ws[i].miss))
  off : Off (fun g => ∃ x ∈ ws, g = x.mb) w wr
theorem row_map {w : World} {base n size : Nat} {t : TypeId} {v : Value} {l : List Value} {P : Program} {k : TypeId} {b m : Nat} {f : ByteArray → Option Value} (h : w.ownsRow base t size v n l) (hm : MapF P k w b m f) : v.ownBlock ≠ some b := by
  intro e
  obtain ⟨_, _, cur, h2⟩ := own_lt h e
  obtain ⟨es, c, h1⟩ := hm.obj
  rw [h1] at h2; cases h2
theorem row_row {w : World} {base n size base' n' size' : Nat} {t t' : TypeId} {v v' : Value} {l l' : List Value} (h : w.ownsRow base t size v n l) (h' : w.ownsRow base' t' size' v' n' l') (ht : t ≠ t') {g : Nat} (hg : v.ownBlock = some g) : v'.ownBlock ≠ some g := by
  intro e
  obtain ⟨_, _, cur, h2⟩ := own_lt h hg
  obtain ⟨_, _, cur', h3⟩ := own_lt h' e
  rw [h2] at h3
  injection h3 with h3
  injection h3 with _ h3
  exact ht h3
theorem MapF.strike {P : Program} {k : TypeId} {w : World} {b : Nat} {l : List ByteArray} {s : ByteArray} (hn : l.Nodup) (h : MapF P k w b (if (setL l s).isSome then l.length - 1 else l.length) (delF (setL l) s)) : MapF P k w b (strike l s).length (setL (strike l s)) := by
  rw [strike_length hn]
  exact h.same (fun x => delF_setL l s x)
theorem nodup_mb {ws : List Wt} (h : (ws.map Wt.mb).Nodup) {i k : Nat} (hi : i < ws.length) (hk : k < ws.length) (hne : i ≠ k) : ws[i].mb ≠ ws[k].mb := by
  intro e
  have hp := List.pairwise_iff_getElem.1 h
  rcases Nat.lt_or_gt_of_ne hne with h1 | h1
  · exact hp i k (by simpa using hi) (by simpa using hk) h1 (by simpa using e)
  · exact hp k i (by simpa using hk) (by simpa using hi) h1 (by simpa using e.symm)
theorem Cm.del {w wr w2 : World} {ws : List Wt} {id : ByteArray} {k : Nat} {v5 v6 : Value} (h : Cm w wr ws id k k v5 v6) (ha : (ws.map Wt.mb).Nodup) (hk : k < ws.length) (o : Obj) (ht : (wr.alloc o).mapTurned w2 ws[k].mb) (hm : MapF Try.prog 9 w2 ws[k].mb (strike ws[k].miss id).length (setL (strike ws[k].miss id))) : Cm w w2 ws id k (k + 1) v5 v6 := by
  have hg := ht.grown
  have old : ∀ g, g < wr.heap.size → g ≠ ws[k].mb → w2.heap[g]? = wr.heap[g]? := fun g hlt hne => (hg.block g (by simp; omega) (fun e => hne (by simpa using e))).trans (heap_alloc_old wr o hlt)
  have hmk := h.maps k hk
  refine ⟨own_kept h.got (fun g hv => old g (own_lt h.got hv).1 (fun e => row_map h.got hmk (by rw [hv, e]))), own_kept h.stay (fun g hv => old g (own_lt h.stay hv).1 (fun e => row_map h.stay hmk (by rw [hv, e]))), fun i hi => ?_, ?_⟩
  · by_cases e : i = k
    · subst e
      rw [if_pos (Nat.lt_succ_self i)]
      exact hm
    · have hx := (h.maps i hi).keep (old _ (h.maps i hi).lt (nodup_mb ha hi hk e))
      by_cases h3 : i < k
      · rw [if_pos h3] at hx
        rw [if_pos (by omega)]; exact hx
      · rw [if_neg h3] at hx
        rw [if_neg (by omega)]; exact hx
  · exact ⟨hg.os.trans h.off.os, hg.tape.trans h.off.tape, hg.output.trans h.off.output, by have := hg.size; have := h.off.size; simp at *; omega, fun g hlt hs => (old g (Nat.lt_of_lt_of_le hlt h.off.size) (fun e => hs ⟨_, List.getElem_mem hk, e⟩)).trans (h.off.block g hlt hs)⟩
theorem Cm.grow {w w2 w3 : World} {ws : List Wt} {id : ByteArray} {k : Nat} {v5 v6 v : Value} (h : Cm w w2 ws id k (k + 1) v5 v6) (o : Obj) (hg : (w2.alloc o).grownBy w3 v.ownBlock) (hvm : ∀ i (hi : i < ws.length), v.ownBlock ≠ some ws[i].mb) (hvb : ∀ g, v.ownBlock = some g → w.heap.size ≤ g) :
    (∀ g, g < w2.heap.size → v.ownBlock ≠ some g → w3.heap[g]? = w2.heap[g]?) ∧ (∀ i (hi : i < ws.length), MapF Try.prog 9 w3 ws[i].mb (if i < k + 1 then (ws[i].came id).miss else ws[i].miss).length (setL (if i < k + 1 then (ws[i].came id).miss else ws[i].miss))) ∧ Off (fun g => ∃ x ∈ ws, g = x.mb) w w3 := by
  have old : ∀ g, g < w2.heap.size → v.ownBlock ≠ some g → w3.heap[g]? = w2.heap[g]? := fun g hlt hne => (hg.block g (by simp; omega) (fun e => hne e.symm)).trans (heap_alloc_old w2 o hlt)
  refine ⟨old, fun i hi => (h.maps i hi).keep (old _ (h.maps i hi).lt (hvm i hi)), ?_⟩
  exact ⟨hg.os.trans h.off.os, hg.tape.trans h.off.tape, hg.output.trans h.off.output, by have := hg.size; have := h.off.size; simp at *; omega, fun g hlt hs => (old g (Nat.lt_of_lt_of_le hlt h.off.size) (fun e => by have := hvb g e; omega)).trans (h.off.block g hlt hs)⟩
theorem Cm.keeps {w w2 w3 : World} {ws : List Wt} {id : ByteArray} {k : Nat} {v5 v6 v' : Value} (h : Cm w w2 ws id k (k + 1) v5 v6) (hk : k < ws.length) (hst : stays (ws[k].came id) = true) (o : Obj) (hg : (w2.alloc o).grownBy w3 v6.ownBlock)
    (ho : w3.ownsRow w.heap.size 100 3 v' ((stayW id (ws.take k)).length + 1) (cellsW (stayW id (ws.take k)) ++ ws[k].cells)) : Cm w w3 ws id (k + 1) (k + 1) v5 v' := by
  obtain ⟨old, hmaps, hoff⟩ := h.grow o hg (fun i hi => row_map h.stay (h.maps i hi)) (fun g hv => (own_lt h.stay hv).2.1)
  have e1 : stayW id (ws.take (k + 1)) = stayW id (ws.take k) ++ [ws[k].came id] := by rw [List.take_succ_eq_append_getElem hk, stayW_snoc, if_pos hst]
  have e2 : leftW id (ws.take (k + 1)) = leftW id (ws.take k) := by rw [List.take_succ_eq_append_getElem hk, leftW_snoc, if_pos hst, List.append_nil]
  refine ⟨by rw [e2]; exact own_kept h.got (fun g hv => old g (own_lt h.got hv).1 (row_row h.got h.stay (by decide) hv)), ?_, hmaps, hoff⟩
  rw [e1, List.length_append, cellsW_append]
  exact ho
theorem Cm.gets {w w2 w3 : World} {ws : List Wt} {id : ByteArray} {k : Nat} {v5 v6 v' : Value} (h : Cm w w2 ws id k (k + 1) v5 v6) (hk : k < ws.length) (hst : stays (ws[k].came id) = false) (o : Obj) (hg : (w2.alloc o).grownBy w3 v5.ownBlock)
    (ho : w3.ownsRow w.heap.size 70 2 v' ((leftW id (ws.take k)).length + 1) (cellsG (leftW id (ws.take k)) ++ [.string ws[k].id, .string ws[k].text])) : Cm w w3 ws id (k + 1) (k + 1) v' v6 := by
  obtain ⟨old, hmaps, hoff⟩ := h.grow o hg (fun i hi => row_map h.got (h.maps i hi)) (fun g hv => (own_lt h.got hv).2.1)
  have e1 : leftW id (ws.take (k + 1)) = leftW id (ws.take k) ++ [ws[k].came id] := by rw [List.take_succ_eq_append_getElem hk, leftW_snoc, hst]; rfl
  have e2 : stayW id (ws.take (k + 1)) = stayW id (ws.take k) := by rw [List.take_succ_eq_append_getElem hk, stayW_snoc, hst]; simp
  refine ⟨?_, by rw [e2]; exact own_kept h.stay (fun g hv => old g (own_lt h.stay hv).1 (row_row h.stay h.got (by decide) hv)), hmaps, hoff⟩
  rw [e1, List.length_append, cellsG_append]
  exact ho
theorem stay_mem {id : ByteArray} {ws : List Wt} {x : Wt} (h : x ∈ stayW id ws) : ∃ y ∈ ws, x = y.came id := by
  unfold stayW at h
  obtain ⟨y, hy, e⟩ := List.mem_map.1 (List.mem_filter.1 h).1
  exact ⟨y, hy, e.symm⟩
theorem stay_apart {id : ByteArray} {ws : List Wt} (h : (ws.map Wt.mb).Nodup) : ((stayW id ws).map Wt.mb).Nodup := by
  have e : ws.map Wt.mb = (ws.map (Wt.came id)).map Wt.mb := by rw [List.map_map]; rfl
  rw [e] at h
  exact h.sublist (List.filter_sublist.map _)
theorem come_fin {w wr : World} {base W places : Nat} {v v5 v6 : Value} {ws : List Wt} {id : ByteArray} (hW : WaitAt w base W places v ws) (h : Cm w wr ws id ws.length ws.length v5 v6) :
    ∃ v5' v', Ending.returned v5 = Ending.returned v5' ∧ (wr.setCell ⟨W, 1, none⟩ v6).ownsRow w.heap.size 70 2 v5' (leftW id ws).length (cellsG (leftW id ws)) ∧ WaitAt (wr.setCell ⟨W, 1, none⟩ v6) base W places v' (stayW id ws) ∧ Off (fun g => g = W ∨ ∃ x ∈ ws, g = x.mb) w (wr.setCell ⟨W, 1, none⟩ v6) ∧ ∀ g, v'.ownBlock = some g → w.heap.size ≤ g := by
  have hWm : ¬ ∃ x ∈ ws, W = x.mb := by rintro ⟨x, hx, e⟩; exact (hW.map_ne hx).1 e.symm
  have hWl := hW.blk.lt
  have hB : Blk wr W 98 [.int .i64 (places : Int), v] := (h.off.block W hWl hWm).trans hW.blk
  have old : ∀ g, g ≠ W → (wr.setCell ⟨W, 1, none⟩ v6).heap[g]? = wr.heap[g]? := fun g hg => Below.heap_setCell wr ⟨W, 1, none⟩ _ g hg
  have hg := h.got
  have hs := h.stay
  rw [List.take_length] at hg hs
  refine ⟨v5, v6, rfl, own_kept hg (fun g hv => old g (by have := (own_lt hg hv).2.1; omega)), ⟨hB.set 1 v6, ?_, ?_, stay_apart hW.apart, hW.wbase⟩, ?_, fun g hv => (own_lt hs hv).2.1⟩
  · have hbase : base ≤ w.heap.size := Nat.le_trans hW.wbase (Nat.le_of_lt hWl)
    exact own_kept ⟨hs.1, by
      rcases hs.2 with h2 | ⟨g, cap, cur, e, hb, r⟩
      · exact .inl h2
      · exact .inr ⟨g, cap, cur, e, Nat.le_trans hbase hb, r⟩⟩ (fun g hv => old g (by have := (own_lt hs hv).2.1; omega))
  · intro x hx
    obtain ⟨y, hy, rfl⟩ := stay_mem hx
    obtain ⟨i, hi, rfl⟩ := List.mem_iff_getElem.1 hy
    have hm := h.maps i hi
    rw [if_pos hi] at hm
    exact ⟨hm.keep (old _ (hW.map_ne hy).1), strike_nodup (hW.maps _ hy).2.1 id, (hW.maps _ hy).2.2⟩
  · exact (h.off.mono (fun g _ hs => .inr hs)).set (.inr (.inl rfl)) _
set_option maxHeartbeats 1000000 in
set_option maxRecDepth 100000 in
theorem wcome_any {w : World} {base W places : Nat} {v : Value} {ws : List Wt} (h : WaitAt w base W places v ws) (hl : ws.length ≤ 1000) {id : ByteArray} (hid : id.size ≤ maxLen) : Calls Try.prog 40 #[.pointer (some ⟨W, 0, none⟩), .string id] w fun e w' => ∃ v5 v', e = .returned v5 ∧ w'.ownsRow w.heap.size 70 2 v5 (leftW id ws).length (cellsG (leftW id ws)) ∧ WaitAt w' base W places v' (stayW id ws) ∧ Off (fun g => g = W ∨ ∃ x ∈ ws, g = x.mb) w w' ∧ ∀ g, v'.ownBlock = some g → w.heap.size ≤ g := by
  have HW := Lib.hid h
  have c1 := h.c1
  obtain ⟨p, vc, rfl, hvc, hvm, hvp⟩ := rowS_form h.row
  have HVP := Lib.hid hvp
  have hWl := h.blk.lt
  obtain ⟨i0, hi0, hz0, hz1, hz2⟩ := info_parts (show (Try.prog.info? 100).map (fun i => (i.zero, i.size, i.bytes)) = some (some (.agg #[.string ⟨#[]⟩, .string ⟨#[]⟩, .map none]), 3, 40) by kernel_rfl)
  obtain ⟨j0, hj0, hy0, hy1, hy2⟩ := info_parts (show (Try.prog.info? 70).map (fun i => (i.zero, i.size, i.bytes)) = some (some (.agg #[.string ⟨#[]⟩, .string ⟨#[]⟩]), 2, 32) by kernel_rfl)
  have I0 := Lib.hid hi0
  have Z0 := Lib.hid hz0
  have Z1 := Lib.hid hz1
  have Z2 := Lib.hid hz2
  have J0 := Lib.hid hj0
  have Y0 := Lib.hid hy0
  have Y1 := Lib.hid hy1
  have Y2 := Lib.hid hy2
  clear h hi0 hz0 hz1 hz2 hj0 hy0 hy1 hy2 hvp
  go_enter Try.func40, Try.ntmps40
  go_wp2
  have HFIN := Lib.hid (fun wr v5 v6 (h : Cm w wr ws id ws.length ws.length v5 v6) => come_fin HW.out h)
  go_loopw [5, 6, 16] (fun v5 v6 j wr => ∃ k : Nat, k ≤ ws.length ∧ j = .int .i64 k ∧ Cm w wr ws id k k v5 v6) (fun _ _ j _ => ws.length - (intOf j).toNat)
  case atStart => exact ⟨0, Nat.zero_le _, rfl, ⟨World.ownsRow_nil _ _ _ _, World.ownsRow_nil _ _ _ _, fun i hi => by simpa using (HW.out.maps _ (List.getElem_mem hi)).1, Off.refl _ _⟩⟩
  case round =>
    obtain ⟨k, hk, rfl, hc⟩ := hrel
    by_cases hlt : k < ws.length
    · obtain ⟨g, rfl⟩ := HVP.out (by omega)
      have hgl := (own_lt HW.out.row (g := g) rfl).1
      have hgb : wr.heap[g]? = w.heap[g]? := hc.off.block g hgl (by rintro ⟨x, hx, e⟩; exact (HW.out.map_ne hx).2 (by simp [Value.ownBlock, e]))
      obtain ⟨d0, d1, d2⟩ := rowW_cells HW.out.row k hlt
      have e0 := (World.cell?_of_block (a := ⟨g, k * 3, none⟩) hgb).trans d0
      have e1 := (World.cell?_of_block (a := ⟨g, k * 3 + 1, none⟩) hgb).trans d1
      have e2 := (World.cell?_of_block (a := ⟨g, k * 3 + 2, none⟩) hgb).trans d2
      have hmk := hc.maps k hlt
      rw [if_neg (Nat.lt_irrefl k)] at hmk
      have hmkl := hmk.lt
      have hmd := (HW.out.maps _ (List.getElem_mem hlt)).2.1
      have HC := Lib.hid hc
      clear d0 d1 d2 hc hgb
      have HMK := Lib.hid hmk
      have HX := Lib.hid (show ∃ x, ws[k] = x from ⟨_, rfl⟩)
      obtain ⟨x, hx⟩ := HX.out
      have HXE := Lib.hid hx
      rw [hx] at e0 e1 e2 HMK hmkl hmd
      clear hx HX hmk
      obtain ⟨xid, xtx, mb, ms⟩ := x
      simp only at e0 e1 e2 HMK hmkl hmd
      have HBX := Lib.hid (show ∀ w2, (wr.alloc (.cells #[.string xid, .string xtx, .map (some mb)] 100)).mapTurned w2 mb → Blk w2 wr.heap.size 100 [.string xid, .string xtx, .map (some mb)] ∧ wr.heap.size < w2.heap.size from fun w2 ht => ⟨(Blk.new wr _ [.string xid, .string xtx, .map (some mb)]).grown ht.grown (by simp; omega), by have := ht.grown.size; simp at this; omega⟩)
      have HDEL := Lib.hid (show ∀ o w2, (wr.alloc o).mapTurned w2 mb → MapF Try.prog 9 w2 mb (strike ms id).length (setL (strike ms id)) → Cm w w2 ws id k (k + 1) _ _ from fun o w2 ht hm => HC.out.del HW.out.apart hlt o (by rw [HXE.out]; exact ht) (by rw [HXE.out]; exact hm))
      have HX1 := Lib.hid (show (stayW id (ws.take k)).length + 1 ≤ maxLen by have := stayW_le id (ws.take k); rw [List.length_take] at this; unfold maxLen; omega)
      have HX2 := Lib.hid (show ((stayW id (ws.take k)).length + 1) * 40 ≤ 140737488355328 by have := stayW_le id (ws.take k); rw [List.length_take] at this; omega)
      have HX3 := Lib.hid (show (leftW id (ws.take k)).length + 1 ≤ maxLen by have := leftW_le id (ws.take k); rw [List.length_take] at this; unfold maxLen; omega)
      have HX4 := Lib.hid (show ((leftW id (ws.take k)).length + 1) * 32 ≤ 140737488355328 by have := leftW_le id (ws.take k); rw [List.length_take] at this; omega)
      have HX5 := Lib.hid (show ∀ w2 v5 v6, Cm w w2 ws id k (k + 1) v5 v6 → ∀ o, w.heap.size ≤ (w2.alloc o).heap.size from fun w2 v5 v6 h o => by have := h.off.size; simp; omega)
      have HON := Lib.hid (show ∀ u ∈ [Value.string xid, .string xtx, .map (some mb)], u.oneCell' = true by
        intro u hu; simp only [List.mem_cons, List.not_mem_nil, or_false] at hu; rcases hu with rfl | rfl | rfl <;> rfl)
      have HOG := Lib.hid (show ∀ u ∈ [Value.string xid, .string xtx], u.oneCell' = true by
        intro u hu; simp only [List.mem_cons, List.not_mem_nil, or_false] at hu; rcases hu with rfl | rfl <;> rfl)
      cases hst : (strike ms id).length with
      | zero =>
        have HST := Lib.hid (show stays (ws[k].came id) = false by
          rw [HXE.out]
          unfold stays Wt.came
          simp only
          cases hs : strike ms id with
          | nil => rfl
          | cons a r => rw [hs] at hst; cases hst)
        have HE := Lib.hid hst
        go_wp2_with (first | (at_delete; refine wpList_delete_F _ rfl _ _ 86 9 rfl 87 Try.underlying9 Try.underlying86 mb ms.length (setL ms) rfl (HMK.out.keep (heap_alloc_old _ _ hmkl)) id hid rfl ?_; intro w2 hm2 ht2; have hm3 := MapF.strike hmd hm2; have hl2 := fun ty => hm3.len (t := 86) Try.underlying86 ty; rw [hst] at hl2; have B2 := HBX.out w2 ht2; have y0 := B2.1.cell 0; have y1 := B2.1.cell 1; have y2 := B2.1.cell 2; have C2 := Lib.hid (HDEL.out _ _ ht2 hm3); clear hm2 ht2 hm3) | (at_builtin; refine wpList_append_own _ rfl _ _ 66 rfl w.heap.size 70 j0 (.agg #[.string ⟨#[]⟩, .string ⟨#[]⟩]) 2 32 Try.underlying66 J0.out Y0.out Y1.out Y2.out rfl (by decide) _ (leftW id (ws.take k)).length (cellsG (leftW id (ws.take k))) rfl (C2.out.got.alloc _) ⟨w2.heap.size, 0, none⟩ 1 1 [.string xid, .string xtx] rfl rfl (World.news_of_block (cs := #[.string xid, .string xtx]) (t := 70) (heap_alloc_new w2 _)) HOG.out HX3.out HX4.out (HX5.out _ _ _ C2.out _) ?_; intro v9 w9 ho9 hg9 _; have C9 := Lib.hid (C2.out.gets hlt HST.out _ hg9 (by rw [HXE.out]; exact ho9)); clear ho9 hg9))
        go_roundw
        case rel => exact ⟨k + 1, by omega, by go_num, C9.out⟩
        case measure => simp [intOf]; omega
      | succ nn =>
        have HST := Lib.hid (show stays (ws[k].came id) = true by
          rw [HXE.out]
          unfold stays Wt.came
          simp only
          cases hs : strike ms id with
          | nil => rw [hs] at hst; cases hst
          | cons a r => rfl)
        have HE := Lib.hid hst
        go_wp2_with (first | (at_delete; refine wpList_delete_F _ rfl _ _ 86 9 rfl 87 Try.underlying9 Try.underlying86 mb ms.length (setL ms) rfl (HMK.out.keep (heap_alloc_old _ _ hmkl)) id hid rfl ?_; intro w2 hm2 ht2; have hm3 := MapF.strike hmd hm2; have hl2 := fun ty => hm3.len (t := 86) Try.underlying86 ty; rw [hst] at hl2; have B2 := HBX.out w2 ht2; have y0 := B2.1.cell 0; have y1 := B2.1.cell 1; have y2 := B2.1.cell 2; have C2 := Lib.hid (HDEL.out _ _ ht2 hm3); clear hm2 ht2 hm3) | (at_builtin; refine wpList_append_own _ rfl _ _ 96 rfl w.heap.size 100 i0 (.agg #[.string ⟨#[]⟩, .string ⟨#[]⟩, .map none]) 3 40 Try.underlying96 I0.out Z0.out Z1.out Z2.out rfl (by decide) _ (stayW id (ws.take k)).length (cellsW (stayW id (ws.take k))) rfl (C2.out.stay.alloc _) ⟨w2.heap.size, 0, none⟩ 1 1 [.string xid, .string xtx, .map (some mb)] rfl rfl (World.news_of_block (cs := #[.string xid, .string xtx, .map (some mb)]) (t := 100) (heap_alloc_new w2 _)) HON.out HX1.out HX2.out (HX5.out _ _ _ C2.out _) ?_; intro v9 w9 ho9 hg9 _; have C9 := Lib.hid (C2.out.keeps hlt HST.out _ hg9 (by rw [HXE.out]; exact ho9)); clear ho9 hg9))
        go_roundw
        case rel => exact ⟨k + 1, by omega, by go_num, C9.out⟩
        case measure => simp [intOf]; omega
    · obtain rfl : k = ws.length := by omega
      have hWm : ¬ ∃ x ∈ ws, W = x.mb := by rintro ⟨x, hx, e⟩; exact (HW.out.map_ne hx).1 e.symm
      have HB := Lib.hid (show Blk wr W 98 [.int .i64 (places : Int), .slice p ws.length vc] from (hc.off.block W hWl hWm).trans HW.out.blk)
      have c1r := HB.out.cell 1
      have f1r := HB.out.frozen 1
      obtain ⟨p6, vc6, rfl, h61, h62, _⟩ := rowS_form hc.stay
      generalize (stayW id (List.take ws.length ws)).length = n6 at *
      have HC := Lib.hid hc
      clear hc
      go_wp2
      go_ret
      exact HFIN.out _ _ _ HC.out
end Go.Proofs.Ytalpmnmpggljcaa
