/-
  A store that is used on: what acts make of it, in plain words.
-/
import Derived.Test.YtffnkomnldgcaaaGreatDoorSo8
import Derived.Test.YtffnkomnldgcaaaGreatDoorSo9
namespace Go.Proofs.YtffnkomnldgcaaaGreatDoor
open Go.RowKit Go.Pal Go.Pal.Dk Go.Pal.Fr Go.Pal.Cr

/-- What is known of a store's disk and records. -/
structure LiveP (d : Dk) (gs : List (List ByteArray)) (s : SS) (n m : Nat) : Prop where
  segs : Segs d.files gs ByteArray.empty
  safe : SafeS d.files gs
  of : ofR ss0 gs.flatten = some s
  few : gs.length ≤ n
  flat : gs.flatten.length ≤ n
  len : d.files.length ≤ n
  used : usedF d.files ≤ m
  sz : SzS s n
theorem SzS.up {s : SS} {n m : Nat} (h : SzS s n) (hn : n ≤ m) : SzS s m := ⟨h.room, h.ev, h.qu, Nat.le_trans h.el hn, Nat.le_trans h.ql hn⟩
theorem live0 (room : Nat) : LiveP (newD room) [] ss0 0 0 := ⟨segs_none, safe_none _, rfl, Nat.le_refl _, Nat.le_refl _, Nat.le_refl _, Nat.le_refl _, sz0⟩
theorem LiveP.ready {d : Dk} {gs : List (List ByteArray)} {s : SS} {n m : Nat} (h : LiveP d gs s n m) (hn : n ≤ 59) : Ready d gs s := ⟨h.segs, Nat.le_trans h.few hn, by have := h.flat; omega, by have := h.len; omega, h.sz.up (by omega)⟩
theorem sorted_put {l : List Fl} (hs : SortedF l) (n s : ByteArray) : SortedF (putF n s l) := by
  unfold putF
  cases h : atF l n with
  | some f => exact sorted_names (names_modF (h := more s) (fun _ => rfl) l).symm hs
  | none => exact sorted_insF hs (fun f hf => atF_none h f hf)
theorem used_put {l : List Fl} (hs : SortedF l) (n s : ByteArray) : usedF (putF n s l) = usedF l + s.size ∧ (putF n s l).length ≤ l.length + 1 := by
  unfold putF
  cases h : atF l n with
  | some f => exact ⟨used_more hs h, by simp [modF]⟩
  | none => exact ⟨by rw [used_insF]; show s.size + _ = _; omega, by rw [length_insF]; exact Nat.le_refl _⟩
theorem LiveP.next {d d' : Dk} {gs : List (List ByteArray)} {s s' : SS} {n m : Nat} {r : ByteArray} (h : LiveP d gs s n m) (hn : n ≤ 58) (ho : SortedF d.files) (hr : r.size ≤ 65535) (ht : takeR s r = some s') (hok : OkD d gs r d') : LiveP d' (addL gs r) s' (n + 1) (m + (8 + r.size)) := by
  have h1 := h.few
  have h2 := h.flat
  have h3 := h.len
  have h4 := h.used
  have so2 := sorted_put ho (segN (nextL gs)) (sealB r)
  obtain ⟨g1, g2⟩ := segs_add h.segs h.safe ho (by omega) r hr so2
  obtain ⟨f, hf⟩ := atF_put_some ho (segN (nextL gs)) (sealB r)
  have u1 := used_put ho (segN (nextL gs)) (sealB r)
  have u2 := used_syncF so2 hf
  have hl := addL_length gs r
  have hnl := nextL_le gs
  refine ⟨by rw [hok.files]; exact g1, by rw [hok.files]; exact g2, ?_, by omega, by rw [addL_flat, List.length_append]; show gs.flatten.length + 1 ≤ _; omega, ?_, ?_, h.sz.take (by omega) ht⟩
  · rw [addL_flat, ofR_snoc, h.of]; exact ht
  · rw [hok.files]
    have : (modF (segN (nextL gs)) syncF (putF (segN (nextL gs)) (sealB r) d.files)).length = (putF (segN (nextL gs)) (sealB r) d.files).length := by simp [modF]
    omega
  · rw [hok.files, u2, u1.1, sealB_size]; omega
/-- An act on a disk that is on, and not armed. -/
theorem act_calm {w : World} {base B Lb D : Nat} {d : Dk} {L : Lay} {gs : List (List ByteArray)} {s : SS} {ev q : Value} {k : Int} {t : ByteArray} {nn : Int} {e : Ending} {w' : World} {n m : Nat} (h : ActP w base B Lb D d L gs s ev q k t nn e w') (hs : SoAt w base B Lb D d L gs false s ev q) (hl : LiveP d gs s n m) (hn : n ≤ 58) (hon : d.on = true) (harm : d.arm = none) (he : (doesR s k t nn).1 = 0) :
    ∃ d', e = .returned (.int .i64 0) ∧ Did w base B Lb D d L ev q d' (addL gs (doesR s k t nn).2) false (afterR s k t nn) w' ∧ LiveP d' (addL gs (doesR s k t nn).2) (afterR s k t nn) (n + 1) (m + (8 + (doesR s k t nn).2.size)) ∧ d'.on = true ∧ d'.arm = none ∧ d'.room = d.room := by
  rcases h.2 he with ⟨d', a, b, c⟩ | ⟨d', _, _, c⟩
  · exact ⟨d', a, b, hl.next hn hs.dk.good.sorted (room_size he) (does_take s k t nn he) c, (c.calm hon harm).1, (c.calm hon harm).2, c.room⟩
  · exact absurd ⟨hon, harm⟩ c.calm
/-- A store just made of a new disk. -/
theorem open_new {w : World} {base D room : Nat} {L : Lay} (hd : DkAt w base D (newD room) L) :
    Calls Tryz.prog 7 #[.pointer (some ⟨D, 0, none⟩)] w fun e w' => ∃ B Lb L' ev q, e = .returned (.tuple #[.pointer (some ⟨B, 0, none⟩), .int .i64 0]) ∧ SoAt w' base B Lb D (newD room) L' [] false ss0 ev q ∧ Off (Foot D [] L) w w' ∧ ∀ g, SoF B Lb D (newD room) L' ev q g → Foot D [] L g ∨ w.heap.size ≤ g := by
  refine (open_so (gs := []) (tl := ByteArray.empty) hd rfl rfl segs_none (by simp)).mono ?_
  rintro e w' ⟨h1, _⟩
  obtain ⟨B, Lb, L', ev, q, a, b, _, c, d⟩ := h1 ss0 rfl
  have e0 : openD (newD room) [] ByteArray.empty = newD room := openD_same _ _ _ rfl
  rw [e0] at b d
  exact ⟨B, Lb, L', ev, q, a, b, c, d⟩
/-- A store opened again. -/
theorem open_again {w : World} {base D : Nat} {d : Dk} {L : Lay} {gs : List (List ByteArray)} {s : SS} {n m : Nat} (hd : DkAt w base D d L) (hl : LiveP d gs s n m) (hn : n ≤ 1000) (hon : d.on = true) (harm : d.arm = none) :
    Calls Tryz.prog 7 #[.pointer (some ⟨D, 0, none⟩)] w fun e w' => ∃ B Lb L' ev q, e = .returned (.tuple #[.pointer (some ⟨B, 0, none⟩), .int .i64 0]) ∧ SoAt w' base B Lb D d L' gs false s ev q ∧ Off (Foot D d.files L) w w' := by
  refine (open_so (tl := ByteArray.empty) hd hon harm hl.segs (by have := hl.flat; omega)).mono ?_
  rintro e w' ⟨h1, _⟩
  obtain ⟨B, Lb, L', ev, q, a, b, _, c, _⟩ := h1 s hl.of
  rw [openD_same d gs ByteArray.empty rfl] at b
  exact ⟨B, Lb, L', ev, q, a, b, c⟩
/-- All blocks of a store lie behind base. -/
def BaseS (base B Lb D : Nat) (d : Dk) (L : Lay) (ev q : Value) : Prop := ∀ g, SoF B Lb D d L ev q g → base ≤ g
theorem Did.based {w w' : World} {base B Lb D : Nat} {d d' : Dk} {L : Lay} {gs : List (List ByteArray)} {br : Bool} {s' : SS} {ev q : Value} (hb : BaseS base B Lb D d L ev q) (hw : base ≤ w.heap.size) (h : Did w base B Lb D d L ev q d' gs br s' w') : ∃ L' ev' q', SoAt w' base B Lb D d' L' gs br s' ev' q' ∧ BaseS base B Lb D d' L' ev' q' ∧ Below base w w' := by
  obtain ⟨L', ev', q', a, b, c⟩ := h
  refine ⟨L', ev', q', a, fun g hg => ?_, b.below hb hw⟩
  rcases c g hg with h | h
  · exact hb g h
  · omega
theorem base_new {w : World} {base B Lb D : Nat} {d d0 : Dk} {L L0 : Lay} {ev q : Value} (hd : DkAt w base D d0 L0) (h : ∀ g, SoF B Lb D d L ev q g → Foot D d0.files L0 g ∨ w.heap.size ≤ g) : BaseS base B Lb D d L ev q := fun g hg => by
  have := hd.dbase
  have := hd.blk.lt
  rcases h g hg with h | h
  · exact hd.foot_base h
  · omega
end Go.Proofs.YtffnkomnldgcaaaGreatDoor
