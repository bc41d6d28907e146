/-
  Layer 12: slices.Insert of one text at its place in a rising row that may begin anywhere in its block.
-/
import Derived.Test.YtabongfoeoideaaDgd
import Derived.Deep.MidRow
namespace Go.Pal
open Go.RowKit
theorem setc_shape (g : Nat) (t : TypeId) (fr : Nat × Nat) : ∀ (vs : List Value) (o : Nat) (cur : Array Value) (w : World), w.heap[g]? = some (.cells cur t fr) → (∃ cur', (w.setCells g o vs).heap[g]? = some (.cells cur' t fr) ∧ cur'.size = cur.size) ∧ w.grownBy (w.setCells g o vs) (some g)
  | [], o, cur, w, h => ⟨⟨cur, h, rfl⟩, ⟨rfl, rfl, rfl, Nat.le_refl _, fun _ _ _ => rfl⟩⟩
  | v :: vs, o, cur, w, h => by
    have h1 : (w.setCell ⟨g, o, none⟩ v).heap[g]? = some (.cells (cur.setIfInBounds o v) t fr) := by rw [setCell_eq_setRow w g o cur t fr v h]; exact setRow_heap w g cur _ t fr h
    obtain ⟨⟨c', h2, h3⟩, h4⟩ := setc_shape g t fr vs (o + 1) _ _ h1
    refine ⟨⟨c', h2, by rw [h3]; simp⟩, ⟨h4.os, h4.tape, h4.output, by have := h4.size; rw [World.setCells]; simpa using this, fun k hk hne => (h4.block k (by simpa using hk) hne).trans (Below.heap_setCell _ _ _ k (fun e => hne (by rw [e])))⟩⟩
theorem rangeAt_append {w : World} {b o : Nat} {a c : List Value} (h1 : w.rangeAt b o a) (h2 : w.rangeAt b (o + a.length) c) : w.rangeAt b o (a ++ c) := fun j v hv => by
  by_cases hj : j < a.length
  · rw [List.getElem?_append_left hj] at hv; exact h1 j v hv
  · rw [List.getElem?_append_right (by omega)] at hv
    have := h2 _ v hv
    rwa [show o + a.length + (j - a.length) = o + j by omega] at this
theorem q_of_range {w : World} {t : TypeId} {base g off cap : Nat} {cur : Array Value} {l : List ByteArray} (hh : w.heap[g]? = some (.cells cur t (0, 0))) (hb : base ≤ g) (hsz : off + cap ≤ cur.size) (hl : l.length ≤ cap) (hm : cap ≤ maxLen) (hr : w.rangeAt g off (l.map Value.string)) : QR w t base (.slice (some ⟨g, off, none⟩) l.length cap) l := by
  refine .inr ⟨g, off, cap, cur, rfl, hb, hh, hsz, hl, hm, fun i hi => ?_⟩
  have := hr i (.string l[i]) (by rw [List.getElem?_map, List.getElem?_eq_getElem hi]; rfl)
  rw [List.getD_eq_getElem?_getD, List.getElem?_eq_getElem hi]
  simpa [World.cell?, hh] using this
theorem newrange (w : World) (A : List Value) (Z : Array Value) (t : TypeId) : (w.drew.alloc (.cells (A.toArray ++ Z) t)).rangeAt w.heap.size 0 A := fun j v hv => by
  have hj := (List.getElem?_eq_some_iff.1 hv).1
  have e : (w.drew.alloc (.cells (A.toArray ++ Z) t)).cell? ⟨w.drew.heap.size, j, none⟩ = (A.toArray ++ Z)[j]? := World.cell?_alloc_new w.drew _ _ j
  rw [Nat.zero_add]
  refine e.trans ?_
  rw [Array.getElem?_append_left (by simpa using hj)]
  simpa using hv
theorem newgrown (w : World) (o : Obj) : w.grownBy (w.drew.alloc o) none := ⟨rfl, rfl, rfl, by simp, fun k hk _ => heap_alloc_old w.drew o hk⟩
theorem newsize (A : List Value) (c : Nat) : c ≤ (A.toArray ++ Builtin.zeroCells (Value.string ⟨#[]⟩).cells (c - A.length)).size := by
  simp [size_zeroCells, Value.cells]; omega
theorem insR_map (x : ByteArray) (l : List ByteArray) : (insR x l).map Value.string = (l.map Value.string).take (placeR x l) ++ ([.string x] ++ (l.map Value.string).drop (placeR x l)) := by
  unfold insR
  rw [List.map_append, List.map_cons, List.map_take, List.map_drop]; rfl
theorem insR_end {x : ByteArray} {l : List ByteArray} (h : placeR x l = l.length) : (insR x l).map Value.string = l.map Value.string ++ [.string x] := by
  rw [insR_map, h]; simp [List.take_of_length_le, List.drop_eq_nil_of_le]
theorem insR_len (x : ByteArray) (l : List ByteArray) : (insR x l).length = l.length + 1 := by
  unfold insR
  have := placeR_le x l
  simp; omega
end Go.Pal
namespace Go.Proofs.Ytabongfoeoideaa
open Go.RowKit Go.Pal Go.Pal.Dk Go.Shelf
set_option linter.unusedVariables false

/-- What Insert leaves. -/
def Insd (w : World) (base : Nat) (v : Value) (x : ByteArray) (l : List ByteArray) (e : Ending) (w' : World) : Prop := ∃ v', e = .returned v' ∧ QR w' 9 base v' (insR x l) ∧ w.grownBy w' v.ownBlock ∧ ∀ g, v'.ownBlock = some g → v.ownBlock = some g ∨ w.heap.size ≤ g
theorem ins_call {w : World} {base : Nat} {v : Value} {l : List ByteArray} (hq : QR w 9 base v l) (hl : l.length ≤ 1000000) (x : ByteArray) {vb vc : Nat} (hv : w.heap[vb]? = some (.cells #[.string x] 9 (0, 0))) (hne : v.ownBlock ≠ some vb) (hbase : base ≤ w.heap.size) :
    Calls Try.prog 43 #[v, .int .i64 (placeR x l : Nat), .slice (some ⟨vb, 0, none⟩) 1 vc] w fun e w' => Insd w base v x l e w' := by
  have hcv : ∀ j u, [Value.string x][j]? = some u → w.cell? ⟨vb, 0 + j, none⟩ = some u := fun j u hu => by
    cases j with
    | zero => simpa [World.cell?, hv] using hu
    | succ k => simp at hu
  have hone : ∀ u ∈ [Value.string x], u.oneCell' = true := by intro u hu; rw [List.mem_singleton.1 hu]; rfl
  have hV1 : ∀ u ∈ l.map Value.string, u.oneCell' = true := by intro u hu; obtain ⟨s, _, rfl⟩ := List.mem_map.1 hu; rfl
  have hle := placeR_le x l
  have hnew : ∀ (c : Nat) (w' : World) (cur : Array Value), w'.heap[w.heap.size]? = some (.cells cur 9 (0, 0)) → w'.rangeAt w.heap.size 0 ((insR x l).map Value.string) → c ≤ cur.size → l.length + 1 ≤ c → c ≤ maxLen → w.grownBy w' none → Insd w base v x l (.returned (.slice (some ⟨w.heap.size, 0, none⟩) (l.length + 1) c)) w' := fun c w' cur h1 h2 h3 h4 h5 h6 => by
    refine ⟨_, rfl, ?_, ⟨h6.os, h6.tape, h6.output, h6.size, fun k hk _ => h6.block k hk (by simp)⟩, fun g hg => .inr ?_⟩
    rotate_left
    · have : w.heap.size = g := by simpa [Value.ownBlock] using hg
      omega
    have := q_of_range (t := 9) (base := base) (off := 0) (cap := c) (l := insR x l) h1 hbase (by omega) (by rw [insR_len]; exact h4) h5 h2
    rwa [insR_len] at this
  have hsame : ∀ (g off cap : Nat) (w' : World) (cur' : Array Value), v.ownBlock = some g → base ≤ g → w'.heap[g]? = some (.cells cur' 9 (0, 0)) → off + cap ≤ cur'.size → l.length + 1 ≤ cap → cap ≤ maxLen → w'.rangeAt g off ((insR x l).map Value.string) → w.grownBy w' (some g) → Insd w base v x l (.returned (.slice (some ⟨g, off, none⟩) (l.length + 1) cap)) w' := fun g off cap w' cur' h0 hb h1 h2 h3 h4 h5 h6 => by
    refine ⟨_, rfl, ?_, by rw [h0]; exact h6, fun k hk => .inl (by rw [h0]; simpa [Value.ownBlock] using hk)⟩
    have := q_of_range (t := 9) (base := base) (off := off) (cap := cap) (l := insR x l) h1 hb h2 (by rw [insR_len]; exact h3) h4 h5
    rwa [insR_len] at this
  rcases hq with ⟨rfl, rfl⟩ | ⟨g, off, cap, cur, rfl, hb, hh, h2, h3, h4, h5⟩
  · refine (Any2.slices_Insert_string_end_grow dgIns none 0 0 vb 0 1 vc [] [.string x] w (by omega) (by omega) (by omega) (by omega) rfl rfl (fun _ => rfl) (fun a ha => by cases ha) hcv hone).mono ?_
    rintro e w' ⟨rfl, rfl⟩
    have hge := grownCap_ge w (0 + 1) 0 9
    exact hnew (grownCap w (0 + 1) 0 9) _ _ (heap_alloc_new _ _) (newrange w [.string x] _ _) (newsize [.string x] _) hge (grownCap_le_maxLen w _ _ _ (by unfold maxLen; omega)) (newgrown w _)
  · have hcs : ∀ j u, (l.map Value.string)[j]? = some u → w.cell? ⟨g, off + j, none⟩ = some u := fun j u hu => by
      rw [List.getElem?_map] at hu
      obtain ⟨s, hs, rfl⟩ := Option.map_eq_some_iff.1 hu
      have hj := (List.getElem?_eq_some_iff.1 hs).1
      have := h5 j hj
      rw [List.getD_eq_getElem?_getD, hs] at this
      simpa [World.cell?, hh] using this
    by_cases hroom : l.length + 1 ≤ cap
    · have hth : ∀ o n, o + n ≤ cur.size → w.there g o n := fun o n ho j hj => by
        have hlt : o + j < cur.size := by omega
        exact ⟨by simp [World.cell?, hh, hlt], by simp [World.frozen?, hh]⟩
      by_cases hend : placeR x l = l.length
      · rw [hend]
        refine (Any2.slices_Insert_string_end_room dgIns g off l.length cap vb 0 1 vc [.string x] w (by omega) hroom (by unfold maxLen at h4; omega) rfl (fun j hj => (hth (off + l.length) 1 (by omega) j hj).1) (fun j hj => (hth (off + l.length) 1 (by omega) j hj).2) hcv hone).mono ?_
        rintro e w' ⟨rfl, rfl⟩
        obtain ⟨⟨cur', q1, q2⟩, q3⟩ := setc_shape g 9 (0, 0) [.string x] (off + l.length) cur w hh
        refine hsame g off cap _ cur' rfl hb q1 (by omega) hroom h4 ?_ q3
        rw [insR_end hend]
        exact rangeAt_append (World.rangeAt_setCells_apart hcs _ _ _ (.inr (.inl (by simp)))) (by rw [List.length_map]; exact World.rangeAt_setCells_same w _ _ _ (hth _ _ (by simp; omega)))
      · have hlt : placeR x l < l.length := by omega
        obtain ⟨i, hi⟩ : ∃ i, i = placeR x l := ⟨_, rfl⟩
        rw [← hi] at hlt ⊢
        have hvg : vb ≠ g := fun e => hne (by rw [e]; rfl)
        refine (Any2.slices_Insert_string_shift dgIns g off l.length cap i vb 0 1 vc (l.map Value.string) [.string x] w hlt (by omega) hroom (by unfold maxLen at h4; omega) hvg (by simp) rfl hcs (fun j hj => (hth off (l.length + 1) (by omega) j hj).1) (fun j hj => (hth off (l.length + 1) (by omega) j hj).2) hcv hV1 hone 9 9 1 cur.size (by simp [World.shape?, hv]) (by simp [World.shape?, hh]) (by omega) (by simp [World.frozen?, hv]) (by simp [World.frozen?, hv])).mono ?_
        rintro e w' ⟨rfl, rfl⟩
        have hhd : w.drew.heap[g]? = some (.cells cur 9 (0, 0)) := hh
        obtain ⟨⟨cur1, q1, q2⟩, q3⟩ := setc_shape g 9 (0, 0) ((l.map Value.string).drop i) (off + (i + 1)) cur w.drew hhd
        obtain ⟨⟨cur2, r1, r2⟩, r3⟩ := setc_shape g 9 (0, 0) [.string x] (off + i) cur1 _ q1
        have hthd : ∀ o n, o + n ≤ cur.size → w.drew.there g o n := hth
        have hdl : ((l.map Value.string).drop i).length = l.length - i := by simp
        have htl : ((l.map Value.string).take i).length = i := by simp; omega
        refine hsame g off cap _ cur2 rfl hb r1 (by omega) hroom h4 ?_ ⟨(r3.os.trans q3.os), (r3.tape.trans q3.tape), (r3.output.trans q3.output), Nat.le_trans q3.size r3.size, fun k hk hn => (r3.block k (Nat.lt_of_lt_of_le hk q3.size) hn).trans (q3.block k hk hn)⟩
        rw [insR_map, ← hi]
        have hcs1 : w.drew.rangeAt g off ((l.map Value.string).take i) := fun j u hu => hcs j u (by
          have hj := (List.getElem?_eq_some_iff.1 hu).1
          rw [htl] at hj
          rwa [List.getElem?_take_of_lt hj] at hu)
        refine rangeAt_append ?_ ?_
        · exact World.rangeAt_setCells_apart (World.rangeAt_setCells_apart hcs1 _ _ _ (.inr (.inl (by rw [htl]; omega)))) _ _ _ (.inr (.inl (by rw [htl]; omega)))
        · rw [htl]
          refine rangeAt_append (World.rangeAt_setCells_same _ _ _ _ (World.there_setCells (hthd _ _ (by simp; omega)) _ _ _)) ?_
          have hsm := World.rangeAt_setCells_same w.drew g (off + (i + 1)) ((l.map Value.string).drop i) (hthd _ _ (by rw [hdl]; omega))
          have := World.rangeAt_setCells_apart hsm g (off + i) [.string x] (.inr (.inr (by simp; omega)))
          simpa [Nat.add_assoc] using this
    · by_cases hend : placeR x l = l.length
      · rw [hend]
        refine (Any2.slices_Insert_string_end_grow dgIns (some ⟨g, off, none⟩) l.length cap vb 0 1 vc (l.map Value.string) [.string x] w (by omega) h3 (by omega) (by omega) (by simp) rfl (fun h => by cases h) (fun a ha j u hu => by cases ha; rw [Addr.add_mid]; exact hcs j u hu) hcv hone).mono ?_
        rintro e w' ⟨rfl, rfl⟩
        have hge := grownCap_ge w (l.length + 1) cap 9
        have hns := newsize (l.map Value.string ++ [.string x]) (grownCap w (l.length + 1) cap 9)
        rw [show (l.map Value.string ++ [Value.string x]).length = l.length + 1 by simp] at hns
        exact hnew (grownCap w (l.length + 1) cap 9) _ _ (heap_alloc_new _ _) (by rw [insR_end hend]; exact newrange w _ _ _) hns hge (grownCap_le_maxLen w _ _ _ (by unfold maxLen; omega)) (newgrown w _)
      · have hlt : placeR x l < l.length := by omega
        obtain ⟨i, hi⟩ : ∃ i, i = placeR x l := ⟨_, rfl⟩
        rw [← hi] at hlt ⊢
        refine (Any2.slices_Insert_string_grow dgIns g off l.length cap i vb 0 1 vc (l.map Value.string) [.string x] w hlt (by omega) h3 (by omega) (by omega) (by simp) rfl hcs hcv hV1 hone).mono ?_
        rintro e w' ⟨rfl, rfl⟩
        have hge := grownCap_ge w (l.length + 1) cap 9
        have hgm := grownCap_le_maxLen w (l.length + 1) cap 9 (by unfold maxLen; omega)
        obtain ⟨gc, hgc⟩ : ∃ gc, gc = grownCap w (l.length + 1) cap 9 := ⟨_, rfl⟩
        have hgt : (dgIns_ren.t 9) = 9 := rfl
        rw [hgt]
        rw [← hgc] at hge hgm ⊢
        have hdl : ((l.map Value.string).drop i).length = l.length - i := by simp
        have htl : ((l.map Value.string).take i).length = i := by simp; omega
        obtain ⟨C, hC⟩ : ∃ C : Array Value, C = ((l.map Value.string).take i).toArray ++ Builtin.zeroCells (Value.string ⟨#[]⟩).cells (l.length + 1 - i) ++ Builtin.zeroCells (Value.string ⟨#[]⟩).cells (gc - (l.length + 1)) := ⟨_, rfl⟩
        have hCs : C.size = gc := by rw [hC]; simp [size_zeroCells, Value.cells]; omega
        have hC0 : ∀ j u, ((l.map Value.string).take i)[j]? = some u → C[j]? = some u := fun j u hu => by
          have hj := (List.getElem?_eq_some_iff.1 hu).1
          rw [hC, Array.append_assoc, Array.getElem?_append_left (by simpa using hj)]
          simpa using hu
        rw [← hC]
        obtain ⟨B, hB⟩ : ∃ B, B = w.heap.size := ⟨_, rfl⟩
        have hhd : (w.alloc (.cells C 9)).drew.heap[B]? = some (.cells C 9 (0, 0)) := by rw [hB]; exact heap_alloc_new w _
        have hold : w.grownBy (w.alloc (.cells C 9)).drew none := ⟨rfl, rfl, rfl, by simp, fun k hk _ => heap_alloc_old w _ hk⟩
        have hth : ∀ o n, o + n ≤ gc → (w.alloc (.cells C 9)).drew.there B o n := fun o n ho j hj => by
          have hlt : o + j < C.size := by omega
          exact ⟨by unfold World.cell?; rw [hhd]; simp [hlt], by unfold World.frozen?; rw [hhd]; simp⟩
        have hr0 : (w.alloc (.cells C 9)).drew.rangeAt B 0 ((l.map Value.string).take i) := fun j u hu => by
          have := hC0 j u hu
          unfold World.cell?
          rw [hhd]
          simpa using this
        have hB0 : B = w.heap.size := hB
        rw [← hB] at hnew ⊢
        obtain ⟨⟨cur1, q1, q2⟩, q3⟩ := setc_shape B 9 (0, 0) [.string x] i C _ hhd
        have q1d : (((w.alloc (.cells C 9)).drew.setCells B i [.string x]).drew).heap[B]? = some (.cells cur1 9 (0, 0)) := q1
        obtain ⟨⟨cur2, r1, r2⟩, r3⟩ := setc_shape B 9 (0, 0) ((l.map Value.string).drop i) (i + 1) cur1 _ q1d
        refine hnew gc _ cur2 r1 ?_ (by omega) hge hgm ?_
        · rw [insR_map, ← hi]
          have hr1 := World.rangeAt_setCells_apart hr0 B i [.string x] (.inr (.inl (by rw [htl]; omega)))
          have hx1 := World.rangeAt_setCells_same (w.alloc (.cells C 9)).drew B i [.string x] (hth _ _ (by simp; omega))
          have hr1d : (((w.alloc (.cells C 9)).drew.setCells B i [.string x]).drew).rangeAt B 0 ((l.map Value.string).take i) := hr1
          have hx1d : (((w.alloc (.cells C 9)).drew.setCells B i [.string x]).drew).rangeAt B i [.string x] := hx1
          have hth1 : (((w.alloc (.cells C 9)).drew.setCells B i [.string x]).drew).there B (i + 1) ((l.map Value.string).drop i).length := World.there_setCells (hth (i + 1) _ (by rw [hdl]; omega)) _ _ _
          refine rangeAt_append (World.rangeAt_setCells_apart hr1d _ _ _ (.inr (.inl (by rw [htl]; omega)))) ?_
          rw [htl, Nat.zero_add]
          exact rangeAt_append (World.rangeAt_setCells_apart hx1d _ _ _ (.inr (.inl (by simp)))) (World.rangeAt_setCells_same _ _ _ _ hth1)
        · refine ⟨(r3.os.trans q3.os).trans hold.os, (r3.tape.trans q3.tape).trans hold.tape, (r3.output.trans q3.output).trans hold.output, Nat.le_trans hold.size (Nat.le_trans q3.size r3.size), fun k hk _ => ?_⟩
          have hkB : some k ≠ some B := fun e => by have := Option.some.inj e; omega
          exact ((r3.block k (Nat.lt_of_lt_of_le (Nat.lt_of_lt_of_le hk hold.size) q3.size) hkB).trans (q3.block k (Nat.lt_of_lt_of_le hk hold.size) hkB)).trans (hold.block k hk (by simp))
end Go.Proofs.Ytabongfoeoideaa
