/-
  Contracts of signing an event: signed (what is answered shares nothing with what was handed in).
-/
import Derived.Test.YtggfmnmopfdiaaaGreatDoorE7
import Derived.Test.YtggfmnmopfdiaaaGreatDoorB1
import Derived.Deep.RegionWith
import Derived.Deep.RegionLaw
import Derived.Deep.RegionHeld3
import Derived.Deep.AppendLies
namespace Go.Proofs.YtggfmnmopfdiaaaGreatDoor
open Go.RowKit Go.Pal Go.Pal.Fr Go.Pal.Ev
set_option linter.unusedVariables false

theorem one_strS (x : ByteArray) : ∀ u ∈ [Value.string x], u.oneCell' = true := by intro u hu; simp at hu; subst hu; rfl
theorem own_keepS {w w' : World} {base n : Nat} {t : TypeId} {v : Value} {xs : List Value} (h : w.ownsRow base t 1 v n xs) (hk : ∀ g, base ≤ g → g < w.heap.size → w'.heap[g]? = w.heap[g]?) : w'.ownsRow base t 1 v n xs := by
  refine ⟨h.1, ?_⟩
  rcases h.2 with h2 | ⟨g, cap, cur, e1, e2, e3, e4⟩
  · exact .inl h2
  · exact .inr ⟨g, cap, cur, e1, e2, (hk g e2 (Array.getElem?_eq_some_iff.1 e3).1).trans e3, e4⟩
/-- Between two parents: what was handed in, the answer's box, the new event's, its own row. -/
structure Sp (w : World) (eb B0 : Nat) (wr : World) (s0 s1 s2 s3 s4 z0 z1 v z3 z4 : Value) (l : List ByteArray) : Prop where
  src : Blk wr w.heap.size 24 [s0, s1, s2, s3, s4]
  res : Blk wr (w.heap.size + 1) 24 [.int .i64 0, .string ⟨#[]⟩, .slice none 0 0, .string ⟨#[]⟩, .string ⟨#[]⟩]
  box : Blk wr eb 24 [z0, z1, v, z3, z4]
  own : wr.ownsRow B0 9 1 v l.length (l.map Value.string)
  bel : Below w.heap.size w wr
  base : B0 ≤ wr.heap.size
  ebB : eb < B0
  far : w.heap.size + 1 < eb
theorem Sp.drew {w : World} {eb B0 : Nat} {wr : World} {s0 s1 s2 s3 s4 z0 z1 v z3 z4 : Value} {l : List ByteArray} (h : Sp w eb B0 wr s0 s1 s2 s3 s4 z0 z1 v z3 z4 l) : Sp w eb B0 wr.drew s0 s1 s2 s3 s4 z0 z1 v z3 z4 l :=
  ⟨h.src.drew, h.res.drew, h.box.drew, own_keepS h.own (fun _ _ _ => rfl), h.bel.drew, h.base, h.ebB, h.far⟩
theorem Sp.below {w : World} {eb B0 : Nat} {wr : World} {s0 s1 s2 s3 s4 z0 z1 v z3 z4 : Value} {l : List ByteArray} {w' : World} (h : Sp w eb B0 wr s0 s1 s2 s3 s4 z0 z1 v z3 z4 l) (hb : Below wr.heap.size wr w') : Sp w eb B0 w' s0 s1 s2 s3 s4 z0 z1 v z3 z4 l :=
  ⟨h.src.below hb h.src.lt, h.res.below hb h.res.lt, h.box.below hb h.box.lt, own_keepS h.own (fun g _ h2 => hb.block g h2), h.bel.trans (hb.mono h.bel.size), Nat.le_trans h.base hb.size, h.ebB, h.far⟩
/-- A text more, stored. -/
theorem Sp.more {w : World} {eb B0 : Nat} {wr : World} {s0 s1 s2 s3 s4 z0 z1 v z3 z4 : Value} {l : List ByteArray} {w8 : World} {o : Obj} {g cap : Nat} {x : ByteArray} (h : Sp w eb B0 wr s0 s1 s2 s3 s4 z0 z1 v z3 z4 l) (hown : w8.ownsRow B0 9 1 (.slice (some ⟨g, 0, none⟩) (l.length + 1) cap) (l.length + 1) (l.map Value.string ++ [Value.string x]))
    (hg : (wr.alloc o).grownBy w8 v.ownBlock) :
    w8.cell? ⟨eb, 2, none⟩ = some v ∧ w8.frozen? ⟨eb, 2, none⟩ = false ∧ Sp w eb B0 (w8.setCell ⟨eb, 2, none⟩ (.slice (some ⟨g, 0, none⟩) (l.length + 1) cap)) s0 s1 s2 s3 s4 z0 z1 (.slice (some ⟨g, 0, none⟩) (l.length + 1) cap) z3 z4 (l ++ [x]) := by
  have p3 := h.ebB
  have p4 := h.far
  have far : ∀ k, k < B0 → some k ≠ v.ownBlock := fun k hk e => by have := (h.own.lt k e.symm).1; omega
  have hb := h.bel.size
  have hB := h.base
  have hgs := hg.size
  have hs1 : (wr.alloc o).heap.size = wr.heap.size + 1 := by simp
  have hbox : Blk w8 eb 24 [z0, z1, v, z3, z4] := (h.box.alloc o).grown hg (far eb p3)
  have hsrc := (h.src.alloc o).grown hg (far _ (by omega))
  have hres := (h.res.alloc o).grown hg (far _ (by omega))
  have hbel : Below w.heap.size w w8 := (h.bel.alloc h.bel.size o).grown hg (by omega) (fun k hk => by have := (h.own.lt k hk).1; omega)
  refine ⟨hbox.cell 2, hbox.frozen 2, ⟨hsrc.other (by simp; omega) _, hres.other (by simp; omega) _, hbox.set 2 _, ?_, hbel.setCell (by simp; omega) _, by simp; omega, p3, p4⟩⟩
  rw [List.length_append, List.map_append]
  exact own_keepS hown (fun k h1 h2 => Below.heap_setCell _ _ _ k (by simp; omega))
theorem own_strsS {w : World} {base n : Nat} {t : TypeId} {v : Value} {l : List ByteArray} (h : w.ownsRow base t 1 v n (l.map Value.string)) (hn : n = l.length) : ∃ a c, v = .slice a l.length c ∧ StrRow w a l ∧ l.length ≤ c ∧ (∀ b off, a = some ⟨b, off, none⟩ → base ≤ b ∧ w.frozen? ⟨b, off, none⟩ = false) := by
  subst hn
  rcases h.2 with ⟨rfl, h0⟩ | ⟨g, cap, cur, rfl, hb, hg, hc, _⟩
  · exact ⟨none, 0, by rw [h0], .inl (List.eq_nil_of_length_eq_zero h0), by omega, fun b off hh => by cases hh⟩
  · refine ⟨some ⟨g, 0, none⟩, cap, rfl, .inr ⟨g, 0, rfl, (h.lt g rfl).2, fun i hi => ?_⟩, hc, fun b off hh => by cases hh; exact ⟨hb, by simp [World.frozen?, hg]⟩⟩
    rw [Nat.zero_add, h.cellAt i (by omega)]
    simp [hi]
theorem heap5S (W : World) (R k : Nat) (hk : k ≠ R) (a0 a1 a2 a3 a4 : Value) :
    (((((W.setCell ⟨R, 0, none⟩ a0).setCell ⟨R, 1, none⟩ a1).setCell ⟨R, 2, none⟩ a2).setCell ⟨R, 3, none⟩ a3).setCell ⟨R, 4, none⟩ a4).heap[k]? = W.heap[k]? :=
  ((((Below.heap_setCell _ _ _ k hk).trans (Below.heap_setCell _ _ _ k hk)).trans (Below.heap_setCell _ _ _ k hk)).trans (Below.heap_setCell _ _ _ k hk)).trans (Below.heap_setCell _ _ _ k hk)
theorem put5T {W : World} {R : Nat} {t : TypeId} {u0 u1 u2 u3 u4 : Value} (h : Blk W R t [u0, u1, u2, u3, u4]) (a0 a1 a2 a3 a4 : Value) :
    (W.setCell ⟨R, 0, none⟩ a0).cell? ⟨R, 0, none⟩ = some a0 ∧ ((W.setCell ⟨R, 0, none⟩ a0).setCell ⟨R, 1, none⟩ a1).cell? ⟨R, 1, none⟩ = some a1 ∧
    (((W.setCell ⟨R, 0, none⟩ a0).setCell ⟨R, 1, none⟩ a1).setCell ⟨R, 2, none⟩ a2).cell? ⟨R, 2, none⟩ = some a2 ∧
    ((((W.setCell ⟨R, 0, none⟩ a0).setCell ⟨R, 1, none⟩ a1).setCell ⟨R, 2, none⟩ a2).setCell ⟨R, 3, none⟩ a3).cell? ⟨R, 3, none⟩ = some a3 ∧
    (((((W.setCell ⟨R, 0, none⟩ a0).setCell ⟨R, 1, none⟩ a1).setCell ⟨R, 2, none⟩ a2).setCell ⟨R, 3, none⟩ a3).setCell ⟨R, 4, none⟩ a4).cell? ⟨R, 4, none⟩ = some a4 :=
  ⟨(h.set 0 a0).cell 0, ((h.set 0 a0).set 1 a1).cell 1, (((h.set 0 a0).set 1 a1).set 2 a2).cell 2, ((((h.set 0 a0).set 1 a1).set 2 a2).set 3 a3).cell 3, (((((h.set 0 a0).set 1 a1).set 2 a2).set 3 a3).set 4 a4).cell 4⟩
theorem put5S {W : World} {R : Nat} {t : TypeId} {u0 u1 u2 u3 u4 : Value} (h : Blk W R t [u0, u1, u2, u3, u4]) (a0 a1 a2 a3 a4 : Value) : Blk (((((W.setCell ⟨R, 0, none⟩ a0).setCell ⟨R, 1, none⟩ a1).setCell ⟨R, 2, none⟩ a2).setCell ⟨R, 3, none⟩ a3).setCell ⟨R, 4, none⟩ a4) R t [a0, a1, a2, a3, a4] :=
  ((((h.set 0 a0).set 1 a1).set 2 a2).set 3 a3).set 4 a4
theorem other5S {W : World} {R S : Nat} {t : TypeId} {l : List Value} (h : Blk W S t l) (hn : S ≠ R) (a0 a1 a2 a3 a4 : Value) : Blk (((((W.setCell ⟨R, 0, none⟩ a0).setCell ⟨R, 1, none⟩ a1).setCell ⟨R, 2, none⟩ a2).setCell ⟨R, 3, none⟩ a3).setCell ⟨R, 4, none⟩ a4) S t l :=
  ((((h.other hn a0).other hn a1).other hn a2).other hn a3).other hn a4
theorem below5S {n : Nat} {w W : World} {R : Nat} (h : Below n w W) (hR : n ≤ R) (a0 a1 a2 a3 a4 : Value) :
    Below n w (((((W.setCell ⟨R, 0, none⟩ a0).setCell ⟨R, 1, none⟩ a1).setCell ⟨R, 2, none⟩ a2).setCell ⟨R, 3, none⟩ a3).setCell ⟨R, 4, none⟩ a4) :=
  ((((h.setCell hR _).setCell hR _).setCell hR _).setCell hR _).setCell hR _
theorem set5_other {w : World} {B eb : Nat} (h : B ≠ eb) (i : Nat) (v0 v1 v2 v3 v4 : Value) : (((((w.setCell ⟨eb, 0, none⟩ v0).setCell ⟨eb, 1, none⟩ v1).setCell ⟨eb, 2, none⟩ v2).setCell ⟨eb, 3, none⟩ v3).setCell ⟨eb, 4, none⟩ v4).cell? ⟨B, i, none⟩ = w.cell? ⟨B, i, none⟩ := by
  have hn : ∀ j, (⟨eb, j, none⟩ : Addr) ≠ ⟨B, i, none⟩ := fun j e => h (by cases e; rfl)
  rw [World.cell?_setCell_other (h := hn 4), World.cell?_setCell_other (h := hn 3), World.cell?_setCell_other (h := hn 2), World.cell?_setCell_other (h := hn 1), World.cell?_setCell_other (h := hn 0)]
theorem zeroBox {W w7 : World} (h : Below (W.alloc (.cells #[.int .i64 0, .string ⟨#[]⟩, .slice none 0 0, .string ⟨#[]⟩, .string ⟨#[]⟩] 24)).drew.heap.size (W.alloc (.cells #[.int .i64 0, .string ⟨#[]⟩, .slice none 0 0, .string ⟨#[]⟩, .string ⟨#[]⟩] 24)).drew w7) : Blk w7 W.heap.size 24 [.int .i64 0, .string ⟨#[]⟩, .slice none 0 0, .string ⟨#[]⟩, .string ⟨#[]⟩] :=
  (Blk.drew (Blk.new W 24 [_, _, _, _, _])).below h (by show W.heap.size < (W.alloc _).heap.size; simp)

set_option maxHeartbeats 4000000 in
set_option maxRecDepth 100000 in
theorem signed_any (w : World) (e : E) (a : Option Addr) (c : Nat) (s : ByteArray) (he : Came w e a c) (hl8 : e.parents.length ≤ 8) (hb : e.body.size ≤ 281474976710656) (hp : ∀ i, (at' e.parents i).size ≤ 281474976710656) :
    Calls Tryz.prog 28 #[evV e a c, .string s] w fun r w' => (∃ a' c', r = .returned (evV { e with sig := s } a' c') ∧ StrRow w' a' e.parents ∧ e.parents.length ≤ c' ∧ (∀ b off, a' = some ⟨b, off, none⟩ → w.heap.size ≤ b ∧ w'.frozen? ⟨b, off, none⟩ = false)) ∧ Below w.heap.size w w' := by
  have HCB := Lib.hid (fun W => clone_any e.body W hb)
  have HCP := Lib.hid (fun i W => clone_any (at' e.parents i) W (hp i))
  have HR := Lib.hid (fun W (hB : Below w.heap.size w W) => he.row.below hB)
  obtain ⟨i0, hi0, hz0, hz1, hz2⟩ := info_parts (show (Tryz.prog.info? 9).map (fun i => (i.zero, i.size, i.bytes)) = some (some (.string ⟨#[]⟩), 1, 16) by kernel_rfl)
  clear he hb hp
  unfold evV
  go_enter Tryz.func28, Tryz.ntmps28
  go_wp2
  obtain ⟨W2, hW2⟩ : ∃ W, W = (w.alloc (.cells #[.int .i64 e.kind, .string e.author, .slice a e.parents.length c, .string e.body, .string e.sig] 24)).alloc (.cells #[.int .i64 0, .string ⟨#[]⟩, .slice none 0 0, .string ⟨#[]⟩, .string ⟨#[]⟩] 24) := ⟨_, rfl⟩
  have HBX := Lib.hid (show Blk W2 w.heap.size 24 [.int .i64 e.kind, .string e.author, .slice a e.parents.length c, .string e.body, .string e.sig] by rw [hW2]; exact (Blk.new w _ [_, _, _, _, _]).alloc _)
  have HRS := Lib.hid (show Blk W2 (w.heap.size + 1) 24 [.int .i64 0, .string ⟨#[]⟩, .slice none 0 0, .string ⟨#[]⟩, .string ⟨#[]⟩] by rw [hW2]; exact Blk.new' _ _ [_, _, _, _, _] (by simp))
  have HB2 := Lib.hid (show Below w.heap.size w W2 by rw [hW2]; exact (alloc_below w _).alloc (by simp) _)
  have HZ2 := Lib.hid (show W2.heap.size = w.heap.size + 2 by rw [hW2]; simp)
  rw [← hW2]
  clear hW2
  have hBl : w.heap.size < W2.heap.size := by have := HZ2.out; omega
  have k0 : W2.drew.cell? ⟨w.heap.size, 0, none⟩ = some (.int .i64 e.kind) := HBX.out.cell 0
  have k1 : W2.drew.cell? ⟨w.heap.size, 1, none⟩ = some (.string e.author) := HBX.out.cell 1
  have k3 : W2.drew.cell? ⟨w.heap.size, 3, none⟩ = some (.string e.body) := HBX.out.cell 3
  have kk0 : ∀ o, (W2.alloc o).drew.cell? ⟨w.heap.size, 0, none⟩ = some (.int .i64 e.kind) := fun o => ((alloc_below W2 o).cell (p := ⟨w.heap.size, 0, none⟩) hBl).trans k0
  have kk1 : ∀ o, (W2.alloc o).drew.cell? ⟨w.heap.size, 1, none⟩ = some (.string e.author) := fun o => ((alloc_below W2 o).cell (p := ⟨w.heap.size, 1, none⟩) hBl).trans k1
  have kk3 : ∀ o, (W2.alloc o).drew.cell? ⟨w.heap.size, 3, none⟩ = some (.string e.body) := fun o => ((alloc_below W2 o).cell (p := ⟨w.heap.size, 3, none⟩) hBl).trans k3
  have hBl2 : ∀ o, w.heap.size < (W2.alloc o).drew.heap.size := fun o => Nat.lt_of_lt_of_le hBl (alloc_below W2 o).size
  go_region_held3 (fun w' => w'.cell? ⟨w.heap.size, 0, none⟩ = some (.int .i64 e.kind) ∧ w'.cell? ⟨w.heap.size, 1, none⟩ = some (.string e.author) ∧ w'.cell? ⟨w.heap.size, 3, none⟩ = some (.string e.body))
    (first | exact ⟨(b7.cell (p := ⟨w.heap.size, 0, none⟩) hBl).trans k0, (b7.cell (p := ⟨w.heap.size, 1, none⟩) hBl).trans k1, (b7.cell (p := ⟨w.heap.size, 3, none⟩) hBl).trans k3⟩ | exact ⟨((b7.alloc b7.size _).cell (p := ⟨w.heap.size, 0, none⟩) hBl).trans k0, ((b7.alloc b7.size _).cell (p := ⟨w.heap.size, 1, none⟩) hBl).trans k1, ((b7.alloc b7.size _).cell (p := ⟨w.heap.size, 3, none⟩) hBl).trans k3⟩ | with_reducible exact ⟨k0, k1, k3⟩ | with_reducible exact ⟨kk0 _, kk1 _, kk3 _⟩ | with_reducible exact ⟨(b7.cell (p := ⟨w.heap.size, 0, none⟩) (hBl2 _)).trans (kk0 _), (b7.cell (p := ⟨w.heap.size, 1, none⟩) (hBl2 _)).trans (kk1 _), (b7.cell (p := ⟨w.heap.size, 3, none⟩) (hBl2 _)).trans (kk3 _)⟩ | exact ⟨(set5_other (Nat.ne_of_lt hBl) 0 _ _ _ _ _).trans ((b7.cell (p := ⟨w.heap.size, 0, none⟩) (hBl2 _)).trans (kk0 _)), (set5_other (Nat.ne_of_lt hBl) 1 _ _ _ _ _).trans ((b7.cell (p := ⟨w.heap.size, 1, none⟩) (hBl2 _)).trans (kk1 _)), (set5_other (Nat.ne_of_lt hBl) 3 _ _ _ _ _).trans ((b7.cell (p := ⟨w.heap.size, 3, none⟩) (hBl2 _)).trans (kk3 _))⟩ | go_keep)
    (first | (go_at_call 23; refine (HCB.out _).mono ?_; rintro r w7 ⟨rfl, b7⟩; have nb := zeroBox b7; have n0 := nb.cell 0; have n1 := nb.cell 1; have n2 := nb.cell 2; have n3 := nb.cell 3; have n4 := nb.cell 4; have m0 := nb.frozen 0; have m1 := nb.frozen 1; have m2 := nb.frozen 2; have m3 := nb.frozen 3; have m4 := nb.frozen 4) | (go_at_call 23; refine (HCB.out _).mono ?_; rintro r w7 ⟨rfl, b7⟩))
  · obtain ⟨W0, hW0⟩ : ∃ W, W = w7.alloc (.cells #[.int .i64 e.kind, .string e.author, .slice none 0 0, .string e.body, .string s] 24) := ⟨_, rfl⟩
    have hz := HZ2.out
    have hz7 : W2.heap.size ≤ w7.heap.size := b7.size
    obtain ⟨eb, heb⟩ : ∃ x, x = w7.heap.size := ⟨_, rfl⟩
    obtain ⟨B0, hB0⟩ : ∃ x, x = W0.heap.size := ⟨_, rfl⟩
    have hs0 : W0.heap.size = w7.heap.size + 1 := by rw [hW0]; simp
    have b72 : Below W2.heap.size W2 w7 := ⟨b7.os, b7.tape, b7.output, b7.size, b7.block⟩
    have SP : Hid (Sp w eb B0 W0 (.int .i64 e.kind) (.string e.author) (.slice a e.parents.length c) (.string e.body) (.string e.sig) (.int .i64 e.kind) (.string e.author) (.slice none 0 0) (.string e.body) (.string s) []) := Lib.hid (by
      refine ⟨?_, ?_, ?_, World.ownsRow_nil _ _ _ _, ?_, by omega, by omega, by omega⟩
      · rw [hW0]; exact (HBX.out.below b72 (by omega)).alloc _
      · rw [hW0]; exact (HRS.out.below b72 (by omega)).alloc _
      · rw [hW0, heb]; exact Blk.new w7 _ [_, _, _, _, _]
      · rw [hW0]; exact (HB2.out.trans (b72.mono HB2.out.size)).alloc (by have := HB2.out.size; omega) _)
    rw [← hW0, ← heb]
    clear hW0 heb hB0 hs0 hz hz7 b72 b7 HBX HRS HB2 HZ2 HCB
    have hst2 : W0.cell? ⟨w.heap.size, 2, none⟩ = some (.slice a e.parents.length c) := SP.out.src.cell 2
    go_wp2
    go_loopw [20] (fun i wr => ∃ (k : Nat) (v : Value), k ≤ e.parents.length ∧ i = .int .i64 k ∧ Sp w eb B0 wr (.int .i64 e.kind) (.string e.author) (.slice a e.parents.length c) (.string e.body) (.string e.sig) (.int .i64 e.kind) (.string e.author) v (.string e.body) (.string s) (e.parents.take k)) (fun i _ => e.parents.length - (intOf i).toNat)
    case atStart => exact ⟨0, .slice none 0 0, Nat.zero_le _, rfl, SP.out⟩
    case round =>
      clear SP hst2
      obtain ⟨k, v, hk, rfl, hL⟩ := hrel
      by_cases hlt : k < e.parents.length
      · obtain ⟨b, off, rfl, hcell⟩ : ∃ b off, a = some ⟨b, off, none⟩ ∧ wr.cell? ⟨b, off + k, none⟩ = some (.string (at' e.parents k)) := by
          rcases HR.out wr hL.bel with h0 | ⟨b, off, rfl, _, hc⟩
          · rw [h0] at hlt; simp at hlt
          · exact ⟨b, off, rfl, hc k hlt⟩
        have HTK := Lib.hid (show e.parents.take (k + 1) = e.parents.take k ++ [at' e.parents k] by rw [List.take_succ_eq_append_getElem hlt]; simp [at', List.getD, hlt])
        have HTL := Lib.hid (show (e.parents.take k).length = k by rw [List.length_take]; omega)
        have HCX := Lib.hid (HCP.out k)
        have k1 : (k : Int) < (e.parents.length : Int) := by omega
        generalize at' e.parents k = x at *
        generalize e.parents.take k = l at *
        have LD := Lib.hid hL.drew
        have d2 : wr.drew.cell? ⟨eb, 2, none⟩ = some v := LD.out.box.cell 2
        have HC1 : Hid (l.length + 1 ≤ maxLen) := Lib.hid (by unfold maxLen; have := HTL.out; omega)
        have HC2 : Hid ((l.length + 1) * 16 ≤ 140737488355328) := Lib.hid (by have := HTL.out; omega)
        clear hL
        go_wp2
        go_region_law (first | (refine step_append_lies _ (by rfl) _ _ _ (by rfl) B0 9 i0 (.string ⟨#[]⟩) 1 16 Tryz.underlying22 hi0 hz0 hz1 hz2 rfl (by omega) _ l.length _ (by rfl) (L7.own.alloc _) ⟨w7.heap.size, 0, none⟩ 1 1 [.string x] (by rfl) (by rfl) (World.news_of_block (cs := #[.string x]) (t := 9) (fr := (0, 0)) (heap_alloc_new w7 _)) (one_strS x) (by omega) HC1.out HC2.out (by have := L7.base; simp; omega) (w7.heap.size + 1) (by simp) ?_; intro g8 cap8 w8 hown8 hg8 _ _; obtain ⟨d8, f8, L8⟩ := L7.more hown8 hg8) | (go_simp; go_at_call 23; refine (HCX.out _).mono ?_; rintro r w7 ⟨rfl, b8⟩; have L7 := LD.out.below b8; have d7 : w7.cell? ⟨eb, 2, none⟩ = some v := L7.box.cell 2; have d7a : ∀ o, (w7.alloc o).cell? ⟨eb, 2, none⟩ = some v := fun o => (L7.below (alloc_below w7 o)).box.cell 2; simp only []))
        all_goals
          have HL8 := Lib.hid L8
          clear L8 L7
          go_wp2
          go_roundw
          case rel => exact ⟨k + 1, _, by omega, by go_num, by rw [HTK.out]; exact HL8.out⟩
          case measure => simp [intOf]; omega
      · obtain rfl : k = e.parents.length := by omega
        rw [List.take_length] at hL
        obtain ⟨a2, c2, rfl, _, _, _⟩ := own_strsS hL.own rfl
        have hz0 : wr.cell? ⟨eb, 0, none⟩ = some (.int .i64 e.kind) := hL.box.cell 0
        have hz1 : wr.cell? ⟨eb, 1, none⟩ = some (.string e.author) := hL.box.cell 1
        have hz2 : wr.cell? ⟨eb, 2, none⟩ = some (.slice a2 e.parents.length c2) := hL.box.cell 2
        have hz3 : wr.cell? ⟨eb, 3, none⟩ = some (.string e.body) := hL.box.cell 3
        have hz4 : wr.cell? ⟨eb, 4, none⟩ = some (.string s) := hL.box.cell 4
        have x0 : wr.cell? ⟨w.heap.size + 1, 0, none⟩ = some (.int .i64 0) := hL.res.cell 0
        have x1 : wr.cell? ⟨w.heap.size + 1, 1, none⟩ = some (.string ⟨#[]⟩) := hL.res.cell 1
        have x2 : wr.cell? ⟨w.heap.size + 1, 2, none⟩ = some (.slice none 0 0) := hL.res.cell 2
        have x3 : wr.cell? ⟨w.heap.size + 1, 3, none⟩ = some (.string ⟨#[]⟩) := hL.res.cell 3
        have x4 : wr.cell? ⟨w.heap.size + 1, 4, none⟩ = some (.string ⟨#[]⟩) := hL.res.cell 4
        have y : ∀ i, wr.frozen? ⟨w.heap.size + 1, i, none⟩ = false := hL.res.frozen
        have LA := Lib.hid hL
        clear hL
        go_wp2
        have q1 := put5T LA.out.res (.int .i64 e.kind) (.string e.author) (.slice a2 e.parents.length c2) (.string e.body) (.string s)
        obtain ⟨s0, s1, s2, s3, s4⟩ := q1
        refine bodyPost_ret (by simp [results, Tryz.results28, go_sem, s0, s1, s2, s3, s4]; try rfl) rfl ?_
        have hfar := LA.out.far
        have hebB := LA.out.ebB
        obtain ⟨a3, c3, e3, hrow3, hcap3, hb3⟩ := own_strsS (own_keepS LA.out.own (fun g h1 _ => heap5S wr (w.heap.size + 1) g (by omega) (.int .i64 e.kind) (.string e.author) (.slice a2 e.parents.length c2) (.string e.body) (.string s))) rfl
        cases e3
        exact ⟨⟨_, _, rfl, hrow3, hcap3, fun b off hh => ⟨by have := (hb3 b off hh).1; omega, (hb3 b off hh).2⟩⟩, below5S LA.out.bel (by omega) _ _ _ _ _⟩
  · obtain ⟨W0, hW0⟩ : ∃ W, W = (((((w7.setCell ⟨W2.heap.size, 0, none⟩ (.int .i64 e.kind)).setCell ⟨W2.heap.size, 1, none⟩ (.string e.author)).setCell ⟨W2.heap.size, 2, none⟩ (.slice none 0 0)).setCell ⟨W2.heap.size, 3, none⟩ (.string e.body)).setCell ⟨W2.heap.size, 4, none⟩ (.string s)) := ⟨_, rfl⟩
    have hz := HZ2.out
    have b72 : Below (W2.heap.size + 1) (W2.alloc (.cells #[.int .i64 0, .string ⟨#[]⟩, .slice none 0 0, .string ⟨#[]⟩, .string ⟨#[]⟩] 24)) w7 := by
      have h9 : Below (W2.alloc (.cells #[.int .i64 0, .string ⟨#[]⟩, .slice none 0 0, .string ⟨#[]⟩, .string ⟨#[]⟩] 24)).heap.size (W2.alloc (.cells #[.int .i64 0, .string ⟨#[]⟩, .slice none 0 0, .string ⟨#[]⟩, .string ⟨#[]⟩] 24)) w7 := ⟨b7.os, b7.tape, b7.output, b7.size, b7.block⟩
      exact h9.mono (by simp)
    have hz7 : W2.heap.size + 1 ≤ w7.heap.size := by have := b72.size; simp at this; omega
    obtain ⟨eb, heb⟩ : ∃ x, x = W2.heap.size := ⟨_, rfl⟩
    obtain ⟨B0, hB0⟩ : ∃ x, x = W0.heap.size := ⟨_, rfl⟩
    have hs0 : W0.heap.size = w7.heap.size := by rw [hW0]; simp
    have SP : Hid (Sp w eb B0 W0 (.int .i64 e.kind) (.string e.author) (.slice a e.parents.length c) (.string e.body) (.string e.sig) (.int .i64 e.kind) (.string e.author) (.slice none 0 0) (.string e.body) (.string s) []) := Lib.hid (by
      refine ⟨?_, ?_, ?_, World.ownsRow_nil _ _ _ _, ?_, by omega, by omega, by omega⟩
      · rw [hW0]; exact other5S ((HBX.out.alloc _).below b72 (by omega)) (by omega) _ _ _ _ _
      · rw [hW0]; exact other5S ((HRS.out.alloc _).below b72 (by omega)) (by omega) _ _ _ _ _
      · rw [hW0, heb]; exact put5S nb _ _ _ _ _
      · rw [hW0]; exact below5S ((HB2.out.alloc HB2.out.size _).trans (b72.mono (by have := HB2.out.size; omega))) (by omega) _ _ _ _ _)
    rw [← hW0, ← heb]
    clear hW0 heb hB0 hs0 hz hz7 b72 b7 HBX HRS HB2 HZ2 HCB nb n0 n1 n2 n3 n4 m0 m1 m2 m3 m4
    have hst2 : W0.cell? ⟨w.heap.size, 2, none⟩ = some (.slice a e.parents.length c) := SP.out.src.cell 2
    go_wp2
    go_loopw [20] (fun i wr => ∃ (k : Nat) (v : Value), k ≤ e.parents.length ∧ i = .int .i64 k ∧ Sp w eb B0 wr (.int .i64 e.kind) (.string e.author) (.slice a e.parents.length c) (.string e.body) (.string e.sig) (.int .i64 e.kind) (.string e.author) v (.string e.body) (.string s) (e.parents.take k)) (fun i _ => e.parents.length - (intOf i).toNat)
    case atStart => exact ⟨0, .slice none 0 0, Nat.zero_le _, rfl, SP.out⟩
    case round =>
      clear SP hst2
      obtain ⟨k, v, hk, rfl, hL⟩ := hrel
      by_cases hlt : k < e.parents.length
      · obtain ⟨b, off, rfl, hcell⟩ : ∃ b off, a = some ⟨b, off, none⟩ ∧ wr.cell? ⟨b, off + k, none⟩ = some (.string (at' e.parents k)) := by
          rcases HR.out wr hL.bel with h0 | ⟨b, off, rfl, _, hc⟩
          · rw [h0] at hlt; simp at hlt
          · exact ⟨b, off, rfl, hc k hlt⟩
        have HTK := Lib.hid (show e.parents.take (k + 1) = e.parents.take k ++ [at' e.parents k] by rw [List.take_succ_eq_append_getElem hlt]; simp [at', List.getD, hlt])
        have HTL := Lib.hid (show (e.parents.take k).length = k by rw [List.length_take]; omega)
        have HCX := Lib.hid (HCP.out k)
        have k1 : (k : Int) < (e.parents.length : Int) := by omega
        generalize at' e.parents k = x at *
        generalize e.parents.take k = l at *
        have LD := Lib.hid hL.drew
        have d2 : wr.drew.cell? ⟨eb, 2, none⟩ = some v := LD.out.box.cell 2
        have HC1 : Hid (l.length + 1 ≤ maxLen) := Lib.hid (by unfold maxLen; have := HTL.out; omega)
        have HC2 : Hid ((l.length + 1) * 16 ≤ 140737488355328) := Lib.hid (by have := HTL.out; omega)
        clear hL
        go_wp2
        go_region_law (first | (refine step_append_lies _ (by rfl) _ _ _ (by rfl) B0 9 i0 (.string ⟨#[]⟩) 1 16 Tryz.underlying22 hi0 hz0 hz1 hz2 rfl (by omega) _ l.length _ (by rfl) (L7.own.alloc _) ⟨w7.heap.size, 0, none⟩ 1 1 [.string x] (by rfl) (by rfl) (World.news_of_block (cs := #[.string x]) (t := 9) (fr := (0, 0)) (heap_alloc_new w7 _)) (one_strS x) (by omega) HC1.out HC2.out (by have := L7.base; simp; omega) (w7.heap.size + 1) (by simp) ?_; intro g8 cap8 w8 hown8 hg8 _ _; obtain ⟨d8, f8, L8⟩ := L7.more hown8 hg8) | (go_simp; go_at_call 23; refine (HCX.out _).mono ?_; rintro r w7 ⟨rfl, b8⟩; have L7 := LD.out.below b8; have d7 : w7.cell? ⟨eb, 2, none⟩ = some v := L7.box.cell 2; have d7a : ∀ o, (w7.alloc o).cell? ⟨eb, 2, none⟩ = some v := fun o => (L7.below (alloc_below w7 o)).box.cell 2; simp only []))
        all_goals
          have HL8 := Lib.hid L8
          clear L8 L7
          go_wp2
          go_roundw
          case rel => exact ⟨k + 1, _, by omega, by go_num, by rw [HTK.out]; exact HL8.out⟩
          case measure => simp [intOf]; omega
      · obtain rfl : k = e.parents.length := by omega
        rw [List.take_length] at hL
        obtain ⟨a2, c2, rfl, _, _, _⟩ := own_strsS hL.own rfl
        have hz0 : wr.cell? ⟨eb, 0, none⟩ = some (.int .i64 e.kind) := hL.box.cell 0
        have hz1 : wr.cell? ⟨eb, 1, none⟩ = some (.string e.author) := hL.box.cell 1
        have hz2 : wr.cell? ⟨eb, 2, none⟩ = some (.slice a2 e.parents.length c2) := hL.box.cell 2
        have hz3 : wr.cell? ⟨eb, 3, none⟩ = some (.string e.body) := hL.box.cell 3
        have hz4 : wr.cell? ⟨eb, 4, none⟩ = some (.string s) := hL.box.cell 4
        have x0 : wr.cell? ⟨w.heap.size + 1, 0, none⟩ = some (.int .i64 0) := hL.res.cell 0
        have x1 : wr.cell? ⟨w.heap.size + 1, 1, none⟩ = some (.string ⟨#[]⟩) := hL.res.cell 1
        have x2 : wr.cell? ⟨w.heap.size + 1, 2, none⟩ = some (.slice none 0 0) := hL.res.cell 2
        have x3 : wr.cell? ⟨w.heap.size + 1, 3, none⟩ = some (.string ⟨#[]⟩) := hL.res.cell 3
        have x4 : wr.cell? ⟨w.heap.size + 1, 4, none⟩ = some (.string ⟨#[]⟩) := hL.res.cell 4
        have y : ∀ i, wr.frozen? ⟨w.heap.size + 1, i, none⟩ = false := hL.res.frozen
        have LA := Lib.hid hL
        clear hL
        go_wp2
        have q1 := put5T LA.out.res (.int .i64 e.kind) (.string e.author) (.slice a2 e.parents.length c2) (.string e.body) (.string s)
        obtain ⟨s0, s1, s2, s3, s4⟩ := q1
        refine bodyPost_ret (by simp [results, Tryz.results28, go_sem, s0, s1, s2, s3, s4]; try rfl) rfl ?_
        have hfar := LA.out.far
        have hebB := LA.out.ebB
        obtain ⟨a3, c3, e3, hrow3, hcap3, hb3⟩ := own_strsS (own_keepS LA.out.own (fun g h1 _ => heap5S wr (w.heap.size + 1) g (by omega) (.int .i64 e.kind) (.string e.author) (.slice a2 e.parents.length c2) (.string e.body) (.string s))) rfl
        cases e3
        exact ⟨⟨_, _, rfl, hrow3, hcap3, fun b off hh => ⟨by have := (hb3 b off hh).1; omega, (hb3 b off hh).2⟩⟩, below5S LA.out.bel (by omega) _ _ _ _ _⟩
end Go.Proofs.YtggfmnmopfdiaaaGreatDoor
