/-
  A store that is used on, with no list of records beside it; rows of texts that are written over.
-/
import Derived.Test.YtffnkomnldgcaaaGreatDoorSo14
import Derived.Test.YtffnkomnldgcaaaGreatDoorSo12
namespace Go.Proofs.YtffnkomnldgcaaaGreatDoor
open Go.RowKit Go.Pal Go.Pal.Dk Go.Pal.Fr Go.Pal.Cr

/-- How long a record may be. -/
theorem rec_small' {s : SS} {kind : Int} {t : ByteArray} {n : Int} (h : (doesR s kind t n).1 = 0) (ht : t.size ≤ 1000 ∨ 65534 < t.size) : (doesR s kind t n).2.size ≤ 1001 := by
  unfold doesR at h ⊢
  split at h
  · rename_i h0
    rw [if_pos h0]
    split at h
    · cases h
    · rename_i h1
      rw [if_neg h1]
      split at h
      · cases h
      · rename_i h2
        rw [if_neg h2, (one_rest 82 t).2.2]; omega
  · rename_i h0
    rw [if_neg h0]
    split at h
    · rename_i h1
      rw [if_pos h1]
      split at h
      · cases h
      · rename_i h2
        rw [if_neg h2, (one_rest 69 t).2.2]; omega
    · rename_i h1
      rw [if_neg h1]
      split at h
      · rename_i h2
        rw [if_pos h2]
        split at h
        · cases h
        · rename_i h3
          rw [if_neg h3, (one_rest 75 _).2.2, be_size]; omega
      · rename_i h2
        rw [if_neg h2]
        split at h
        · rename_i h3
          rw [if_pos h3]
          split at h
          · cases h
          · rename_i h4
            rw [if_neg h4]
            split at h
            · cases h
            · rename_i h5
              rw [if_neg h5, (one_rest 81 t).2.2]; omega
        · rename_i h3
          rw [if_neg h3]
          split at h
          · cases h
          · rename_i h4
            rw [if_neg h4]; decide
/-- What is kept from act to act. -/
structure Sv (w : World) (base B Lb D : Nat) (k : Nat) (s : SS) (d : Dk) (L : Lay) (gs : List (List ByteArray)) (ev q : Value) (wr : World) : Prop where
  so : SoAt wr base B Lb D d L gs false s ev q
  lv : LiveP d gs s k (1009 * k)
  on : d.on = true
  arm : d.arm = none
  room : d.room = 1048576
  bs : BaseS base B Lb D d L ev q
  bel : Below base w wr
theorem Sv.base_le {w wr : World} {base B Lb D : Nat} {k : Nat} {s : SS} {d : Dk} {L : Lay} {gs : List (List ByteArray)} {ev q : Value} (h : Sv w base B Lb D k s d L gs ev q wr) : base ≤ wr.heap.size := Nat.le_trans h.so.dk.dbase (Nat.le_of_lt h.so.dk.blk.lt)
theorem Sv.below {w wr w' : World} {base B Lb D : Nat} {k : Nat} {s : SS} {d : Dk} {L : Lay} {gs : List (List ByteArray)} {ev q : Value} (h : Sv w base B Lb D k s d L gs ev q wr) (hb : Below wr.heap.size wr w') : Sv w base B Lb D k s d L gs ev q w' :=
  ⟨h.so.below hb (Nat.le_refl _), h.lv, h.on, h.arm, h.room, h.bs, h.bel.trans (hb.mono h.base_le)⟩
theorem Sv.up {w wr : World} {base B Lb D : Nat} {k : Nat} {s : SS} {d : Dk} {L : Lay} {gs : List (List ByteArray)} {ev q : Value} (h : Sv w base B Lb D k s d L gs ev q wr) : Sv w base B Lb D (k + 1) s d L gs ev q wr :=
  ⟨h.so, ⟨h.lv.segs, h.lv.safe, h.lv.of, Nat.le_succ_of_le h.lv.few, Nat.le_succ_of_le h.lv.flat, Nat.le_succ_of_le h.lv.len, by have := h.lv.used; omega, h.lv.sz.up (by omega)⟩, h.on, h.arm, h.room, h.bs, h.bel⟩
theorem Sv.act {w wr w' : World} {base B Lb D : Nat} {k : Nat} {s s' : SS} {d d' : Dk} {L : Lay} {gs : List (List ByteArray)} {ev q : Value} {r : ByteArray} (h : Sv w base B Lb D k s d L gs ev q wr) (hd : Did wr base B Lb D d L ev q d' (addL gs r) false s' w')
    (hl : LiveP d' (addL gs r) s' (k + 1) (1009 * k + (8 + r.size))) (hr : r.size ≤ 1001) (h1 : d'.on = true) (h2 : d'.arm = none) (h3 : d'.room = d.room) : ∃ L' ev' q', Sv w base B Lb D (k + 1) s' d' L' (addL gs r) ev' q' w' := by
  obtain ⟨L', ev', q', a, b, c⟩ := Did.based h.bs h.base_le hd
  exact ⟨L', ev', q', a, ⟨hl.segs, hl.safe, hl.of, hl.few, hl.flat, hl.len, by have := hl.used; omega, hl.sz⟩, h1, h2, h3.trans h.room, b, h.bel.trans c⟩
/-- Blocks that aren't the store's were written. -/
theorem Sv.off {w wr w' : World} {base B Lb D : Nat} {k : Nat} {s : SS} {d : Dk} {L : Lay} {gs : List (List ByteArray)} {ev q : Value} (h : Sv w base B Lb D k s d L gs ev q wr) {S : Nat → Prop} (ho : Off S wr w') (hs : ∀ g, S g → ¬ SoF B Lb D d L ev q g) (hb : ∀ g, S g → base ≤ g) : Sv w base B Lb D k s d L gs ev q w' :=
  ⟨h.so.keep (fun g hg => ho.block g (h.so.lt hg) (fun hh => hs g hh hg)), h.lv, h.on, h.arm, h.room, h.bs, h.bel.trans (ho.below hb h.base_le)⟩
/-- A text of a row is written over. -/
theorem QR.over {w : World} {t : TypeId} {base g off cap : Nat} {l : List ByteArray} (h : QR w t base (.slice (some ⟨g, off, none⟩) l.length cap) l) {k : Nat} (hk : k < l.length) (x : ByteArray) :
    w.cell? ⟨g, off + k, none⟩ = some (.string (l.getD k ByteArray.empty)) ∧ w.frozen? ⟨g, off + k, none⟩ = false ∧ QR (w.setCell ⟨g, off + k, none⟩ (.string x)) t base (.slice (some ⟨g, off, none⟩) l.length cap) (l.set k x) := by
  rcases h with ⟨h1, _⟩ | ⟨g', off', cap', cur, e, hb, hh, h2, h3, h4, h5⟩
  · cases h1
  · cases e
    have hd : (w.setCell ⟨g, off + k, none⟩ (.string x)).heap[g]? = some (.cells (cur.setIfInBounds (off + k) (.string x)) t (0, 0)) := by
      simp [World.setCell, Array.getElem?_modify, hh]
    refine ⟨by simp [World.cell?, hh, h5 k hk], by simp [World.frozen?, hh], .inr ⟨g, off, cap, _, by rw [List.length_set], hb, hd, by simpa using h2, by rw [List.length_set]; exact h3, h4, fun i hi => ?_⟩⟩
    rw [List.length_set] at hi
    rw [Array.getElem?_setIfInBounds]
    by_cases hik : i = k
    · subst hik
      rw [if_pos rfl, if_pos (by omega), List.getD_eq_getElem?_getD, List.getElem?_set_self hk]; rfl
    · rw [if_neg (by omega), h5 i hi, List.getD_eq_getElem?_getD, List.getD_eq_getElem?_getD, List.getElem?_set_ne (by omega)]
/-- Two rows of one's own, each as long as it was, and nothing else touched. -/
structure Spo (w5 : World) (base : Nat) (v1 v2 : Value) (n1 n2 : Nat) (wr : World) : Prop where
  off : Off (fun g => v1.ownBlock = some g ∨ v2.ownBlock = some g) w5 wr
  r1 : ∃ l, l.length = n1 ∧ QR wr 9 base v1 l
  r2 : ∃ l, l.length = n2 ∧ QR wr 9 base v2 l
  apart : ∀ g, v1.ownBlock = some g → v2.ownBlock ≠ some g
theorem Spo.at1 {w5 wr : World} {base : Nat} {a1 : Option Addr} {c1 : Nat} {v2 : Value} {n1 n2 : Nat} (h : Spo w5 base (.slice a1 n1 c1) v2 n1 n2 wr) {k : Nat} (hk : k < n1) (x : ByteArray) :
    ∃ g off y, a1 = some ⟨g, off, none⟩ ∧ wr.cell? ⟨g, off + k, none⟩ = some (.string y) ∧ wr.frozen? ⟨g, off + k, none⟩ = false ∧ Spo w5 base (.slice a1 n1 c1) v2 n1 n2 (wr.setCell ⟨g, off + k, none⟩ (.string x)) := by
  obtain ⟨l, hl, hq⟩ := h.r1
  have hq0 := hq
  rcases hq0 with ⟨_, h1⟩ | ⟨g, off, cap, cur, e, _⟩
  · rw [h1] at hl; simp at hl; omega
  · cases e
    obtain ⟨p1, p2, p3⟩ := QR.over hq hk x
    refine ⟨g, off, _, rfl, p1, p2, ⟨h.off.set (p := ⟨g, off + k, none⟩) (.inr (.inl rfl)) _, ⟨_, List.length_set .., by simpa using p3⟩, ?_, h.apart⟩⟩
    obtain ⟨l2, hl2, hq2⟩ := h.r2
    exact ⟨l2, hl2, cell_keep hq2 (h.apart g rfl)⟩
theorem Spo.at2 {w5 wr : World} {base : Nat} {a2 : Option Addr} {c2 : Nat} {v1 : Value} {n1 n2 : Nat} (h : Spo w5 base v1 (.slice a2 n2 c2) n1 n2 wr) {k : Nat} (hk : k < n2) (x : ByteArray) :
    ∃ g off y, a2 = some ⟨g, off, none⟩ ∧ wr.cell? ⟨g, off + k, none⟩ = some (.string y) ∧ wr.frozen? ⟨g, off + k, none⟩ = false ∧ Spo w5 base v1 (.slice a2 n2 c2) n1 n2 (wr.setCell ⟨g, off + k, none⟩ (.string x)) := by
  obtain ⟨l, hl, hq⟩ := h.r2
  have hq0 := hq
  rcases hq0 with ⟨_, h1⟩ | ⟨g, off, cap, cur, e, _⟩
  · rw [h1] at hl; simp at hl; omega
  · cases e
    obtain ⟨p1, p2, p3⟩ := QR.over hq hk x
    refine ⟨g, off, _, rfl, p1, p2, ⟨h.off.set (p := ⟨g, off + k, none⟩) (.inr (.inr rfl)) _, ?_, ⟨_, List.length_set .., by simpa using p3⟩, h.apart⟩⟩
    obtain ⟨l2, hl2, hq2⟩ := h.r1
    exact ⟨l2, hl2, cell_keep hq2 (fun e => h.apart g e rfl)⟩
end Go.Proofs.YtffnkomnldgcaaaGreatDoor
