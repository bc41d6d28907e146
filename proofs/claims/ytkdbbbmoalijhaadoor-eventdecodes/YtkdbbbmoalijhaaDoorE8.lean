/-
  Contract of package event's Decode.
-/
import Derived.Test.YtkdbbbmoalijhaaDoorE2
import Derived.Test.YtkdbbbmoalijhaaDoorF1
import Derived.Deep.RegionHeld3
import Derived.Deep.RegionLaw
import Derived.Deep.AppendLies
import Derived.Deep.OwnRows
import Derived.Handy
namespace Go.Pal.Ev
open Go.Pal Go.Pal.Fr
/-- What Decode takes, whether it is right or not, and what is left. -/
def deK (s : ByteArray) : Nat × St := numS 1 (some s)
def deA (s : ByteArray) : ByteArray × St := textS (deK s).2
def deN (s : ByteArray) : Nat × St := numS 1 (deA s).2
def deP (s : ByteArray) : List ByteArray × St := idsS (deN s).1 (deN s).2
def deB (s : ByteArray) : ByteArray × St := textS (deP s).2
def deS (s : ByteArray) : ByteArray × St := textS (deB s).2
def deE (s : ByteArray) : E := ⟨((deK s).1 : Nat), (deA s).1, (deP s).1, (deB s).1, (deS s).1⟩
end Go.Pal.Ev
namespace Go.Proofs.YtkdbbbmoalijhaaDoor
open Go.RowKit Go.Pal Go.Pal.Fr Go.Pal.Ev

theorem rd_newO (s : ByteArray) (w : World) (n : Nat) (h : n = w.heap.size) : RdO (w.alloc (.cells #[.string s, .bool false] 48)) n (some s) := by subst h; exact rd_new s w
theorem own_keep {w w' : World} {base n : Nat} {t : TypeId} {v : Value} {xs : List Value} (h : w.ownsRow base t 1 v n xs) (hk : ∀ g, base ≤ g → g < w.heap.size → w'.heap[g]? = w.heap[g]?) : w'.ownsRow base t 1 v n xs := by
  obtain ⟨h1, h2⟩ := h
  refine ⟨h1, ?_⟩
  rcases h2 with h2 | ⟨g, cap, cur, e1, e2, e3, e4⟩
  · exact .inl h2
  · refine .inr ⟨g, cap, cur, e1, e2, ?_, e4⟩
    rw [hk g e2 ?_]
    · exact e3
    · rcases Nat.lt_or_ge g w.heap.size with h | h
      · exact h
      · rw [Array.getElem?_eq_none h] at e3; cases e3

/-- Inside Decode: the reader, the answer's box, the event's box, its own list. -/
structure Lp (w : World) (R b eb B0 : Nat) (wr : World) (st : St) (z0 z1 v z3 z4 : Value) (l : List ByteArray) : Prop where
  rd : RdO wr b st
  res : Blk wr R 25 [.int .i64 0, .string ⟨#[]⟩, .slice none 0 0, .string ⟨#[]⟩, .string ⟨#[]⟩]
  box : Blk wr eb 25 [z0, z1, v, z3, z4]
  own : wr.ownsRow B0 9 1 v l.length (l.map Value.string)
  bel : Below w.heap.size w wr
  base : B0 ≤ wr.heap.size
/-- Where all lies. -/
structure Pl (w : World) (R b eb B0 : Nat) : Prop where
  pr : R = w.heap.size
  pb : b = w.heap.size + 1
  e1 : b < eb
  e2 : eb < B0
theorem RdO.of_block {w w' : World} {b : Nat} {st : St} (h : RdO w b st) (e : w'.heap[b]? = w.heap[b]?) : RdO w' b st := by
  have c : ∀ i, w'.cell? ⟨b, i, none⟩ = w.cell? ⟨b, i, none⟩ := fun i => World.cell?_of_block (a := ⟨b, i, none⟩) e
  have f : ∀ i, w'.frozen? ⟨b, i, none⟩ = w.frozen? ⟨b, i, none⟩ := fun i => World.frozen?_of_block (a := ⟨b, i, none⟩) e
  cases st with
  | none => exact ⟨(c 0).trans (Rd.c0 h), (c 1).trans (Rd.c1 h), (f 0).trans (Rd.f0 h), (f 1).trans (Rd.f1 h)⟩
  | some r => exact ⟨(c 0).trans (Rd.c0 h), (c 1).trans (Rd.c1 h), (f 0).trans (Rd.f0 h), (f 1).trans (Rd.f1 h)⟩
theorem RdO.drew {w : World} {b : Nat} {st : St} (h : RdO w b st) : RdO w.drew b st := h.of_block rfl
section
variable {w : World} {R b eb B0 : Nat} {wr : World} {st : St} {z0 z1 v z3 z4 : Value} {l : List ByteArray}
theorem Lp.drew (h : Lp w R b eb B0 wr st z0 z1 v z3 z4 l) : Lp w R b eb B0 wr.drew st z0 z1 v z3 z4 l :=
  ⟨h.rd.drew, h.res.drew, h.box.drew, own_keep h.own (fun _ _ _ => rfl), h.bel.drew, h.base⟩
theorem Lp.c0 (h : Lp w R b eb B0 wr st z0 z1 v z3 z4 l) : wr.cell? ⟨eb, 0, none⟩ = some z0 := h.box.cell 0
theorem Lp.c1 (h : Lp w R b eb B0 wr st z0 z1 v z3 z4 l) : wr.cell? ⟨eb, 1, none⟩ = some z1 := h.box.cell 1
theorem Lp.c2 (h : Lp w R b eb B0 wr st z0 z1 v z3 z4 l) : wr.cell? ⟨eb, 2, none⟩ = some v := h.box.cell 2
theorem Lp.c3 (h : Lp w R b eb B0 wr st z0 z1 v z3 z4 l) : wr.cell? ⟨eb, 3, none⟩ = some z3 := h.box.cell 3
theorem Lp.c4 (h : Lp w R b eb B0 wr st z0 z1 v z3 z4 l) : wr.cell? ⟨eb, 4, none⟩ = some z4 := h.box.cell 4
/-- A call of the reader. -/
theorem Lp.read {w' : World} {st' : St} (h : Lp w R b eb B0 wr st z0 z1 v z3 z4 l) (hp : Pl w R b eb B0) (hr : RdO w' b st') (hg : wr.grownBy w' (some b)) : Lp w R b eb B0 w' st' z0 z1 v z3 z4 l := by
  obtain ⟨p1, p2, p3, p4⟩ := hp
  refine ⟨hr, h.res.grown hg (by simp; omega), h.box.grown hg (by simp; omega), own_keep h.own (fun g h1 h2 => hg.block g h2 (by simp; omega)), h.bel.grown hg h.bel.size (fun k hk => by cases hk; omega), Nat.le_trans h.base hg.size⟩
/-- A call that writes nothing old. -/
theorem Lp.below {w' : World} (h : Lp w R b eb B0 wr st z0 z1 v z3 z4 l) (hb : Below wr.heap.size wr w') : Lp w R b eb B0 w' st z0 z1 v z3 z4 l :=
  ⟨h.rd.below hb, h.res.below hb h.res.lt, h.box.below hb h.box.lt, own_keep h.own (fun g _ h2 => hb.block g h2), h.bel.trans (hb.mono h.bel.size), Nat.le_trans h.base hb.size⟩
/-- A text more, stored. -/
theorem Lp.more {w8 : World} {o : Obj} {g cap : Nat} {x : ByteArray} (h : Lp w R b eb B0 wr st z0 z1 v z3 z4 l) (hp : Pl w R b eb B0) (hown : w8.ownsRow B0 9 1 (.slice (some ⟨g, 0, none⟩) (l.length + 1) cap) (l.length + 1) (l.map Value.string ++ [Value.string x]))
    (hg : (wr.alloc o).grownBy w8 v.ownBlock) :
    w8.cell? ⟨eb, 2, none⟩ = some v ∧ w8.frozen? ⟨eb, 2, none⟩ = false ∧ Lp w R b eb B0 (w8.setCell ⟨eb, 2, none⟩ (.slice (some ⟨g, 0, none⟩) (l.length + 1) cap)) st z0 z1 (.slice (some ⟨g, 0, none⟩) (l.length + 1) cap) z3 z4 (l ++ [x]) := by
  obtain ⟨p1, p2, p3, p4⟩ := hp
  have far : ∀ k, k < B0 → some k ≠ v.ownBlock := fun k hk e => by have := (h.own.lt k e.symm).1; omega
  have hb := h.bel.size
  have hB := h.base
  have hgs := hg.size
  have hs1 : (wr.alloc o).heap.size = wr.heap.size + 1 := by simp
  have hbox : Blk w8 eb 25 [z0, z1, v, z3, z4] := (h.box.alloc o).grown hg (far eb p4)
  have hres := (h.res.alloc o).grown hg (far R (by omega))
  have hrd : RdO w8 b st := h.rd.of_block ((hg.block b (by omega) (far b (by omega))).trans (heap_alloc_old wr o (by omega)))
  have hbel : Below w.heap.size w w8 := (h.bel.alloc h.bel.size o).grown hg (by omega) (fun k hk => by have := (h.own.lt k hk).1; omega)
  refine ⟨hbox.cell 2, hbox.frozen 2, ⟨?_, ?_, hbox.set 2 _, ?_, ?_, ?_⟩⟩
  · exact hrd.of_block (by rw [heap_setCell_other _ _ _ _ (by simp; omega)])
  · exact hres.other (by simp; omega) _
  · rw [List.length_append, List.map_append]
    exact own_keep hown (fun g h1 h2 => by rw [heap_setCell_other _ _ _ _ (by simp; omega)])
  · exact hbel.setCell (by simp; omega) _
  · simp; omega
/-- A field, stored. -/
theorem Lp.put (h : Lp w R b eb B0 wr st z0 z1 v z3 z4 l) (hp : Pl w R b eb B0) (u : Value) :
    Lp w R b eb B0 (wr.setCell ⟨eb, 3, none⟩ u) st z0 z1 v u z4 l ∧ Lp w R b eb B0 (wr.setCell ⟨eb, 4, none⟩ u) st z0 z1 v z3 u l := by
  obtain ⟨p1, p2, p3, p4⟩ := hp
  have hb := h.bel.size
  constructor
  all_goals
    refine ⟨?_, h.res.other (by simp; omega) _, h.box.set _ _, ?_, h.bel.setCell (by simp; omega) _, by simp; exact h.base⟩
    · exact h.rd.of_block (by rw [heap_setCell_other _ _ _ _ (by simp; omega)])
    · exact own_keep h.own (fun g h1 h2 => by rw [heap_setCell_other _ _ _ _ (by simp; omega)])
end

theorem idsS_list (k : Nat) (st : St) : (idsS (k + 1) st).1 = (idsS k st).1 ++ [(takeS 32 (idsS k st).2).1] := rfl
theorem idsS_st (k : Nat) (st : St) : (idsS (k + 1) st).2 = (takeS 32 (idsS k st).2).2 := rfl
theorem one_str (x : ByteArray) : ∀ u ∈ [Value.string x], u.oneCell' = true := by intro u hu; simp at hu; subst hu; rfl
/-- What Decode answers. -/
def DeP (s : ByteArray) (r : Ending) (w' : World) : Prop :=
  (endS (deS s).2 = true ∧ evOk (deE s) = true ∧ ∃ a c, r = .returned (.tuple #[evV (deE s) a c, .int .i64 0]) ∧ StrRow w' a (deE s).parents ∧ (deE s).parents.length ≤ c) ∨
  ((endS (deS s).2 && evOk (deE s)) = false ∧ r = .returned (.tuple #[evV zero none 0, .int .i64 2]))
theorem lp_start {w w2 w3 w4 : World} {z0 z1 : Value} {s : ByteArray} {st : St}
    (g2 : ((w.alloc (.cells #[.int .i64 0, .string ⟨#[]⟩, .slice none 0 0, .string ⟨#[]⟩, .string ⟨#[]⟩] 25)).alloc (.cells #[.string s, .bool false] 48)).grownBy w2 (some (w.heap.size + 1)))
    (g3 : w2.grownBy w3 (some (w.heap.size + 1))) (g4 : (w3.alloc (.cells #[z0, z1, .slice none 0 0, .string ⟨#[]⟩, .string ⟨#[]⟩] 25)).grownBy w4 (some (w.heap.size + 1))) (r4 : RdO w4 (w.heap.size + 1) st) :
    Pl w w.heap.size (w.heap.size + 1) w3.heap.size w4.heap.size ∧ Lp w w.heap.size (w.heap.size + 1) w3.heap.size w4.heap.size w4 st z0 z1 (.slice none 0 0) (.string ⟨#[]⟩) (.string ⟨#[]⟩) [] := by
  have s2 := g2.size
  have s3 := g3.size
  have s4 := g4.size
  simp only [World.size_alloc] at s2 s4
  refine ⟨⟨rfl, rfl, by omega, by omega⟩, ⟨r4, ?_, ?_, World.ownsRow_nil _ _ _ _, ?_, Nat.le_refl _⟩⟩
  · exact ((((Blk.new' w _ _ rfl).alloc _).grown g2 (by simp)).grown g3 (by simp)).alloc _ |>.grown g4 (by simp)
  · exact (Blk.new' w3 _ _ rfl).grown g4 (by simp; omega)
  · have b1 := ((alloc_below w (.cells #[.int .i64 0, .string ⟨#[]⟩, .slice none 0 0, .string ⟨#[]⟩, .string ⟨#[]⟩] 25)).alloc (by simp) (.cells #[.string s, .bool false] 48)).grown g2 (by simp; omega) (fun k hk => by cases hk; omega)
    have b2 := b1.grown g3 (by omega) (fun k hk => by cases hk; omega)
    exact (b2.alloc (by omega) _).grown g4 (by simp; omega) (fun k hk => by cases hk; omega)

theorem own_row {w : World} {base : Nat} {t : TypeId} {v : Value} {l : List ByteArray} (h : w.ownsRow base t 1 v l.length (l.map Value.string)) : ∃ a c, v = .slice a l.length c ∧ StrRow w a l ∧ l.length ≤ c := by
  rcases h.2 with ⟨rfl, h0⟩ | ⟨g, cap, cur, rfl, hb, hg, hc, _⟩
  · exact ⟨none, 0, by rw [h0], .inl (List.eq_nil_of_length_eq_zero h0), by omega⟩
  · refine ⟨some ⟨g, 0, none⟩, cap, rfl, .inr ⟨g, 0, rfl, (h.lt g rfl).2, fun i hi => ?_⟩, hc⟩
    rw [Nat.zero_add, h.cellAt i (by omega)]
    simp [List.getD_eq_getElem?_getD, hi]
/-- Five cells, stored one behind the other, are read as they were stored. -/
theorem put5 {W : World} {R : Nat} {t : TypeId} {u0 u1 u2 u3 u4 : Value} (h : Blk W R t [u0, u1, u2, u3, u4]) (a0 a1 a2 a3 a4 : Value) :
    (W.setCell ⟨R, 0, none⟩ a0).cell? ⟨R, 0, none⟩ = some a0 ∧ ((W.setCell ⟨R, 0, none⟩ a0).setCell ⟨R, 1, none⟩ a1).cell? ⟨R, 1, none⟩ = some a1 ∧
    (((W.setCell ⟨R, 0, none⟩ a0).setCell ⟨R, 1, none⟩ a1).setCell ⟨R, 2, none⟩ a2).cell? ⟨R, 2, none⟩ = some a2 ∧
    ((((W.setCell ⟨R, 0, none⟩ a0).setCell ⟨R, 1, none⟩ a1).setCell ⟨R, 2, none⟩ a2).setCell ⟨R, 3, none⟩ a3).cell? ⟨R, 3, none⟩ = some a3 ∧
    (((((W.setCell ⟨R, 0, none⟩ a0).setCell ⟨R, 1, none⟩ a1).setCell ⟨R, 2, none⟩ a2).setCell ⟨R, 3, none⟩ a3).setCell ⟨R, 4, none⟩ a4).cell? ⟨R, 4, none⟩ = some a4 :=
  ⟨(h.set 0 a0).cell 0, ((h.set 0 a0).set 1 a1).cell 1, (((h.set 0 a0).set 1 a1).set 2 a2).cell 2, ((((h.set 0 a0).set 1 a1).set 2 a2).set 3 a3).cell 3, (((((h.set 0 a0).set 1 a1).set 2 a2).set 3 a3).set 4 a4).cell 4⟩
theorem below5 {w W : World} {R : Nat} (h : Below w.heap.size w W) (hR : w.heap.size ≤ R) (a0 a1 a2 a3 a4 : Value) :
    Below w.heap.size w (((((W.setCell ⟨R, 0, none⟩ a0).setCell ⟨R, 1, none⟩ a1).setCell ⟨R, 2, none⟩ a2).setCell ⟨R, 3, none⟩ a3).setCell ⟨R, 4, none⟩ a4) :=
  ((((h.setCell hR _).setCell hR _).setCell hR _).setCell hR _).setCell hR _
theorem heap5 (W : World) (R k : Nat) (hk : k ≠ R) (a0 a1 a2 a3 a4 : Value) :
    (((((W.setCell ⟨R, 0, none⟩ a0).setCell ⟨R, 1, none⟩ a1).setCell ⟨R, 2, none⟩ a2).setCell ⟨R, 3, none⟩ a3).setCell ⟨R, 4, none⟩ a4).heap[k]? = W.heap[k]? := by
  rw [heap_setCell_other _ _ _ _ hk, heap_setCell_other _ _ _ _ hk, heap_setCell_other _ _ _ _ hk, heap_setCell_other _ _ _ _ hk, heap_setCell_other _ _ _ _ hk]
theorem takeS_le (n : Nat) (st : St) : (takeS n st).1.size ≤ n := by
  unfold takeS
  cases st with
  | none => exact Nat.zero_le _
  | some r =>
    by_cases h : n ≤ r.size
    · simp only [h, if_true, ByteArray.size_extract]; omega
    · simp only [h, if_false]; exact Nat.zero_le _
theorem ids_each (n : Nat) (st : St) : ∀ i, (at' (idsS n st).1 i).size ≤ 32 := by
  induction n with
  | zero => intro i; simp [idsS, at']
  | succ k ih =>
    intro i
    rw [idsS_list]
    by_cases h1 : i < (idsS k st).1.length
    · rw [at'_snoc _ _ _ h1]; exact ih i
    · by_cases h2 : i = (idsS k st).1.length
      · rw [h2, at'_last]; exact takeS_le _ _
      · rw [at', List.getD_eq_getElem?_getD, List.getElem?_eq_none (by simp; omega)]; decide

set_option maxHeartbeats 4000000 in
set_option maxRecDepth 100000 in
theorem decode_any (w : World) (s : ByteArray) (hs : s.size ≤ 1000000000) :
    Calls Tryd.prog 5 #[.string s] w fun r w' => DeP s r w' ∧ Below w.heap.size w w' := by
  obtain ⟨i0, hi0, hz0', hz1', hz2'⟩ := info_parts (show (Tryd.prog.info? 9).map (fun i => (i.zero, i.size, i.bytes)) = some (some (.string ⟨#[]⟩), 1, 16) by kernel_rfl)
  have hz0 : stSize (some s) ≤ 281474976710656 := by simp only [stSize]; omega
  have hz1 : stSize (deK s).2 ≤ 281474976710656 := Nat.le_trans (takeS_size _ _) hz0
  have hz2 : stSize (deA s).2 ≤ 281474976710656 := Nat.le_trans (textS_size _) hz1
  have hz3 : stSize (deN s).2 ≤ 281474976710656 := Nat.le_trans (takeS_size _ _) hz2
  have HZP := Lib.hid (fun k => Nat.le_trans (idsS_size k (deN s).2) hz3)
  have HK := Lib.hid (fun W b (h : RdO W b (some s)) => byte_o W b (some s) h hz0)
  have HA := Lib.hid (fun W b (h : RdO W b (deK s).2) => text_o W b (deK s).2 h hz1)
  have HN := Lib.hid (fun W b (h : RdO W b (deA s).2) => byte_o W b (deA s).2 h hz2)
  have hn : (deN s).1 < 256 := numS_lt _
  clear hz0 hz1 hz2 hz3
  go_enter Tryd.func5, Tryd.ntmps5
  go_wp2_with fail
  refine (read_any _ _).mono ?_
  rintro r w1 ⟨rfl, rfl⟩
  go_wp2_with fail
  refine (HK.out _ _ (rd_newO s _ _ (by simp))).mono ?_
  rintro r w2 ⟨rfl, r2, g2⟩
  go_wp2_with fail
  refine (HA.out _ _ r2).mono ?_
  rintro r w3 ⟨rfl, r3, g3⟩
  go_wp2_with fail
  refine (HN.out _ _ (r3.below (alloc_below w3 _))).mono ?_
  rintro r w4 ⟨rfl, r4, g4⟩
  obtain ⟨hpl, hlp⟩ := lp_start g2 g3 g4 r4
  have HPL := Lib.hid hpl
  have HLP := Lib.hid hlp
  clear r2 r3 r4 g2 g3 g4 hpl hlp HK HA HN
  have eK : (numS 1 (some s)).1 = (deK s).1 := rfl
  have eA : (textS (deK s).2).1 = (deA s).1 := rfl
  have eN : (numS 1 (deA s).2).1 = (deN s).1 := rfl
  have eN2 : (numS 1 (deA s).2).2 = (deN s).2 := rfl
  rw [eK, eA, eN2] at HLP
  rw [eK, eA, eN]
  clear eK eA eN eN2
  have hstart : Hid (idsS 0 (deN s).2 = ([], (deN s).2)) := Lib.hid rfl
  generalize hdn : (deN s).1 = n at *
  generalize hds : (deN s).2 = st0 at *
  have HDN := Lib.hid hdn
  have HDS := Lib.hid hds
  clear hdn hds
  generalize hEB : w3.heap.size = eb at *
  generalize hB0 : w4.heap.size = B0 at *
  clear hEB hB0
  go_wp2
  go_loopw [15] (fun i wr => ∃ k : Nat, k ≤ n ∧ i = .int .i64 k ∧ ∃ v, Lp w w.heap.size (w.heap.size + 1) eb B0 wr (idsS k st0).2 (.int .i64 ((deK s).1 : Nat)) (.string (deA s).1) v (.string ⟨#[]⟩) (.string ⟨#[]⟩) (idsS k st0).1) (fun i _ => n - (intOf i).toNat)
  case atStart => exact ⟨0, by omega, rfl, _, HLP.out⟩
  case round =>
    obtain ⟨k, hk, rfl, v, hL⟩ := hrel
    by_cases hlt : k < n
    · have HTK := Lib.hid (fun (W : World) (h : Lp w w.heap.size (w.heap.size + 1) eb B0 W (idsS k st0).2 (.int .i64 ((deK s).1 : Nat)) (.string (deA s).1) v (.string ⟨#[]⟩) (.string ⟨#[]⟩) (idsS k st0).1) => (take_o 32 W (w.heap.size + 1) (idsS k st0).2 h.rd (HZP.out k)).mono (fun r w' (q : r = .returned (.string (takeS 32 (idsS k st0).2).1) ∧ RdO w' (w.heap.size + 1) (takeS 32 (idsS k st0).2).2 ∧ W.grownBy w' (some (w.heap.size + 1))) => (show r = .returned (.string (takeS 32 (idsS k st0).2).1) ∧ Lp w w.heap.size (w.heap.size + 1) eb B0 w' (takeS 32 (idsS k st0).2).2 (.int .i64 ((deK s).1 : Nat)) (.string (deA s).1) v (.string ⟨#[]⟩) (.string ⟨#[]⟩) (idsS k st0).1 from ⟨q.1, h.read HPL.out q.2.1 q.2.2⟩)))
      rw [show (((32 : Nat) : Int)) = 32 from rfl] at HTK
      have hlen := idsS_length k st0
      have e1 := idsS_list k st0
      have e2 := idsS_st k st0
      have E1 := Lib.hid e1
      have E2 := Lib.hid e2
      have HLEN := Lib.hid hlen
      clear e1 e2
      generalize (idsS k st0).1 = l at *
      generalize (takeS 32 (idsS k st0).2).2 = st1 at *
      generalize (takeS 32 (idsS k st0).2).1 = x at *
      generalize (idsS k st0).2 = st at *
      have LD := Lib.hid hL.drew
      have d2 := LD.out.c2
      have hl2 : l.length ≤ 256 := by omega
      have HC1 : Hid (l.length + 1 ≤ maxLen) := Lib.hid (by unfold maxLen; omega)
      have HC2 : Hid ((l.length + 1) * 16 ≤ 140737488355328) := Lib.hid (by omega)
      clear hL hlen
      go_wp2
      go_region_law (first | (refine step_append_lies _ (by rfl) _ _ _ (by rfl) B0 9 i0 (.string ⟨#[]⟩) 1 16 Tryd.underlying23 hi0 hz0' hz1' hz2' rfl (by omega) _ l.length _ (by rfl) (L7.own.alloc _) ⟨w7.heap.size, 0, none⟩ 1 1 [.string x] (by rfl) (by rfl) (World.news_of_block (cs := #[.string x]) (t := 9) (fr := (0, 0)) (heap_alloc_new w7 _)) (one_str x) (by omega) HC1.out HC2.out (by have := L7.base; simp; omega) (w7.heap.size + 1) (by simp) ?_; intro g8 cap8 w8 hown8 hg8 _ _; obtain ⟨d8, f8, L8⟩ := L7.more HPL.out hown8 hg8) | (go_simp; go_at_call 14; refine (HTK.out _ LD.out).mono ?_; rintro r w7 ⟨rfl, L7⟩; have d7 := L7.c2; have d7a : ∀ o, (w7.alloc o).cell? ⟨eb, 2, none⟩ = some v := fun o => (L7.below (alloc_below w7 o)).c2; simp only []))
      all_goals
        have HL8 := Lib.hid L8
        clear L8 L7
        go_wp2
        go_roundw
        case rel => exact ⟨k + 1, by omega, by go_num, _, by rw [E1.out, E2.out]; exact HL8.out⟩
        case measure => simp [intOf]; omega
    · obtain rfl : k = n := by omega
      have hP : idsS k st0 = deP s := by unfold deP; rw [HDN.out, HDS.out]
      have hzP := HZP.out k
      rw [hP] at hL hzP
      have hzB : stSize (deB s).2 ≤ 281474976710656 := Nat.le_trans (textS_size _) hzP
      have hPl : (deP s).1.length ≤ 256 := by rw [← hP, idsS_length]; omega
      have hPe : ∀ i, (at' (deP s).1 i).size ≤ 32 := by rw [← hP]; exact ids_each _ _
      have hBz : (deB s).1.size ≤ 281474976710656 := Nat.le_trans (textS_out _) hzP
      have HTB := Lib.hid (fun (W : World) (h : RdO W (w.heap.size + 1) (deP s).2) => text_o W (w.heap.size + 1) (deP s).2 h hzP)
      have HTS := Lib.hid (fun (W : World) (h : RdO W (w.heap.size + 1) (deB s).2) => text_o W (w.heap.size + 1) (deB s).2 h hzB)
      have HEN := Lib.hid (fun (W : World) (h : RdO W (w.heap.size + 1) (deS s).2) => end_o W (w.heap.size + 1) (deS s).2 h)
      have HRT := Lib.hid (fun (W : World) a c (h : StrRow W a (deP s).1) => right_any W (deE s) a c h (by show (deP s).1.length ≤ _; unfold maxLen; omega) (fun i => Nat.le_trans (hPe i) (by decide)) (by show (deB s).1.size ≤ _; unfold maxLen; omega))
      have HL := Lib.hid hL
      clear hL hP hzP hzB hPl hPe hBz HZP HDN HDS hstart HLP
      go_wp2_with fail
      refine (HTB.out _ HL.out.rd).mono ?_
      rintro r w5 ⟨rfl, r5, g5⟩
      have L5 := Lib.hid (HL.out.read HPL.out r5 g5)
      clear r5 g5 HL HTB
      have eB : (textS (deP s).2).1 = (deB s).1 := rfl
      have eB2 : (textS (deP s).2).2 = (deB s).2 := rfl
      rw [eB2] at L5
      rw [eB]
      have c3 := L5.out.c3
      have f3 : w5.frozen? ⟨eb, 3, none⟩ = false := L5.out.box.frozen 3
      go_wp2_with fail
      have L6 := Lib.hid (L5.out.put HPL.out (.string (deB s).1)).1
      clear c3 f3 L5 eB eB2
      refine (HTS.out _ L6.out.rd).mono ?_
      rintro r w7 ⟨rfl, r7, g7⟩
      have L7 := Lib.hid (L6.out.read HPL.out r7 g7)
      clear r7 g7 L6 HTS
      have eS : (textS (deB s).2).1 = (deS s).1 := rfl
      have eS2 : (textS (deB s).2).2 = (deS s).2 := rfl
      rw [eS2] at L7
      rw [eS]
      have c4 := L7.out.c4
      have f4 : w7.frozen? ⟨eb, 4, none⟩ = false := L7.out.box.frozen 4
      go_wp2_with fail
      have L8 := Lib.hid (L7.out.put HPL.out (.string (deS s).1)).2
      clear c4 f4 L7 eS eS2
      generalize w7.setCell ⟨eb, 4, none⟩ (.string (deS s).1) = w8 at *
      refine (HEN.out _ L8.out.rd).mono ?_
      rintro r w9 ⟨rfl, rfl⟩
      obtain ⟨a, c, rfl, hrow, hcap⟩ := own_row L8.out.own
      cases hE : endS (deS s).2
      · have x0 : w8.cell? ⟨w.heap.size, 0, none⟩ = some (.int .i64 0) := L8.out.res.cell 0
        have x1 : w8.cell? ⟨w.heap.size, 1, none⟩ = some (.string ⟨#[]⟩) := L8.out.res.cell 1
        have x2 : w8.cell? ⟨w.heap.size, 2, none⟩ = some (.slice none 0 0) := L8.out.res.cell 2
        have x3 : w8.cell? ⟨w.heap.size, 3, none⟩ = some (.string ⟨#[]⟩) := L8.out.res.cell 3
        have x4 : w8.cell? ⟨w.heap.size, 4, none⟩ = some (.string ⟨#[]⟩) := L8.out.res.cell 4
        have y : ∀ i, w8.frozen? ⟨w.heap.size, i, none⟩ = false := L8.out.res.frozen
        have HEF := Lib.hid hE
        clear hE hrow hcap
        go_wp2
        obtain ⟨s0, s1, s2, s3, s4⟩ := put5 L8.out.res (.int .i64 0) (.string ⟨#[]⟩) (.slice none 0 0) (.string ⟨#[]⟩) (.string ⟨#[]⟩)
        refine bodyPost_ret (by simp [results, Tryd.results5, go_sem, s0, s1, s2, s3, s4]; try rfl) rfl ?_
        exact ⟨.inr ⟨by rw [HEF.out]; rfl, rfl⟩, below5 L8.out.bel (Nat.le_refl _) _ _ _ _ _⟩
      · have c0 := L8.out.c0
        have c1 := L8.out.c1
        have c2 := L8.out.c2
        have c3 := L8.out.c3
        have c4 := L8.out.c4
        have HEF := Lib.hid hE
        have HR8 := Lib.hid (HRT.out w8 a c hrow)
        clear hE hrow hcap HRT
        unfold evV deE at HR8
        simp only at HR8
        have eD : (⟨((deK s).1 : Nat), (deA s).1, (deP s).1, (deB s).1, (deS s).1⟩ : E) = deE s := rfl
        rw [eD] at HR8
        clear eD
        cases hX : evOk (deE s)
        · rw [hX] at HR8
          have HX := Lib.hid hX
          clear hX
          go_wp2_with fail
          refine HR8.out.mono ?_
          rintro r wa ⟨rfl, qa⟩
          have LA := Lib.hid (L8.out.below qa)
          clear qa c0 c1 c2 c3 c4
          have x0 : wa.cell? ⟨w.heap.size, 0, none⟩ = some (.int .i64 0) := LA.out.res.cell 0
          have x1 : wa.cell? ⟨w.heap.size, 1, none⟩ = some (.string ⟨#[]⟩) := LA.out.res.cell 1
          have x2 : wa.cell? ⟨w.heap.size, 2, none⟩ = some (.slice none 0 0) := LA.out.res.cell 2
          have x3 : wa.cell? ⟨w.heap.size, 3, none⟩ = some (.string ⟨#[]⟩) := LA.out.res.cell 3
          have x4 : wa.cell? ⟨w.heap.size, 4, none⟩ = some (.string ⟨#[]⟩) := LA.out.res.cell 4
          have y : ∀ i, wa.frozen? ⟨w.heap.size, i, none⟩ = false := LA.out.res.frozen
          go_wp2
          obtain ⟨s0, s1, s2, s3, s4⟩ := put5 LA.out.res (.int .i64 0) (.string ⟨#[]⟩) (.slice none 0 0) (.string ⟨#[]⟩) (.string ⟨#[]⟩)
          refine bodyPost_ret (by simp [results, Tryd.results5, go_sem, s0, s1, s2, s3, s4]; try rfl) rfl ?_
          exact ⟨.inr ⟨by rw [HX.out, Bool.and_false], rfl⟩, below5 LA.out.bel (Nat.le_refl _) _ _ _ _ _⟩
        · rw [hX] at HR8
          have HX := Lib.hid hX
          clear hX
          go_wp2_with fail
          refine HR8.out.mono ?_
          rintro r wa ⟨rfl, qa⟩
          have LA := Lib.hid (L8.out.below qa)
          clear qa c0 c1 c2 c3 c4
          have c0 := LA.out.c0
          have c1 := LA.out.c1
          have c2 := LA.out.c2
          have c3 := LA.out.c3
          have c4 := LA.out.c4
          have x0 : wa.cell? ⟨w.heap.size, 0, none⟩ = some (.int .i64 0) := LA.out.res.cell 0
          have x1 : wa.cell? ⟨w.heap.size, 1, none⟩ = some (.string ⟨#[]⟩) := LA.out.res.cell 1
          have x2 : wa.cell? ⟨w.heap.size, 2, none⟩ = some (.slice none 0 0) := LA.out.res.cell 2
          have x3 : wa.cell? ⟨w.heap.size, 3, none⟩ = some (.string ⟨#[]⟩) := LA.out.res.cell 3
          have x4 : wa.cell? ⟨w.heap.size, 4, none⟩ = some (.string ⟨#[]⟩) := LA.out.res.cell 4
          have y : ∀ i, wa.frozen? ⟨w.heap.size, i, none⟩ = false := LA.out.res.frozen
          go_wp2
          obtain ⟨s0, s1, s2, s3, s4⟩ := put5 LA.out.res (.int .i64 ((deK s).1 : Nat)) (.string (deA s).1) (.slice a (deP s).1.length c) (.string (deB s).1) (.string (deS s).1)
          refine bodyPost_ret (by simp [results, Tryd.results5, go_sem, s0, s1, s2, s3, s4]; try rfl) rfl ?_
          have hp := HPL.out
          obtain ⟨p1, p2, p3, p4⟩ := hp
          obtain ⟨a2, c2', e2, hrow2, hcap2⟩ := own_row (own_keep LA.out.own (fun g h1 _ => heap5 wa w.heap.size g (by omega) (.int .i64 ((deK s).1 : Nat)) (.string (deA s).1) (.slice a (deP s).1.length c) (.string (deB s).1) (.string (deS s).1)))
          cases e2
          exact ⟨.inl ⟨HEF.out, HX.out, a, c, rfl, hrow2, hcap2⟩, below5 LA.out.bel (Nat.le_refl _) _ _ _ _ _⟩
end Go.Proofs.YtkdbbbmoalijhaaDoor
