/-
  A store that is used on, with no list of records beside it; rows of texts that are written over.
  The comparison of a store's state with the document's, as the laws ask it.
  A store whose disk may fail under way: what is kept from act to act, and what a crash leaves of it.
-/
import Derived.Test.YtffnkomnldgcaaaGreatDoorSo14
import Derived.Test.YtffnkomnldgcaaaGreatDoorSo12
namespace Go.Proofs.YtffnkomnldgcaaaGreatDoor
open Go.RowKit Go.Pal Go.Pal.Dk Go.Pal.Fr Go.Pal.Cr

/-- How long a record may be. -/
theorem rec_small' {s : SS} {kind : Int} {t : ByteArray} {n : Int} (h : (doesR s kind t n).1 = 0) (ht : t.size ≤ 1000 ∨ 65534 < t.size) : (doesR s kind t n).2.size ≤ 1001 := by
  unfold doesR at h ⊢
  split at h
  · rename_i h0
    rw [if_pos h0]
    split at h
    · cases h
    · rename_i h1
      rw [if_neg h1]
      split at h
      · cases h
      · rename_i h2
        rw [if_neg h2, (one_rest 82 t).2.2]; omega
  · rename_i h0
    rw [if_neg h0]
    split at h
    · rename_i h1
      rw [if_pos h1]
      split at h
      · cases h
      · rename_i h2
        rw [if_neg h2, (one_rest 69 t).2.2]; omega
    · rename_i h1
      rw [if_neg h1]
      split at h
      · rename_i h2
        rw [if_pos h2]
        split at h
        · cases h
        · rename_i h3
          rw [if_neg h3, (one_rest 75 _).2.2, be_size]; omega
      · rename_i h2
        rw [if_neg h2]
        split at h
        · rename_i h3
          rw [if_pos h3]
          split at h
          · cases h
          · rename_i h4
            rw [if_neg h4]
            split at h
            · cases h
            · rename_i h5
              rw [if_neg h5, (one_rest 81 t).2.2]; omega
        · rename_i h3
          rw [if_neg h3]
          split at h
          · cases h
          · rename_i h4
            rw [if_neg h4]; decide
/-- What is kept from act to act. -/
structure Sv (w : World) (base B Lb D : Nat) (k : Nat) (s : SS) (d : Dk) (L : Lay) (gs : List (List ByteArray)) (ev q : Value) (wr : World) : Prop where
  so : SoAt wr base B Lb D d L gs false s ev q
  lv : LiveP d gs s k (1009 * k)
  on : d.on = true
  arm : d.arm = none
  room : d.room = 1048576
  bs : BaseS base B Lb D d L ev q
  bel : Below base w wr
theorem Sv.base_le {w wr : World} {base B Lb D : Nat} {k : Nat} {s : SS} {d : Dk} {L : Lay} {gs : List (List ByteArray)} {ev q : Value} (h : Sv w base B Lb D k s d L gs ev q wr) : base ≤ wr.heap.size := Nat.le_trans h.so.dk.dbase (Nat.le_of_lt h.so.dk.blk.lt)
theorem Sv.below {w wr w' : World} {base B Lb D : Nat} {k : Nat} {s : SS} {d : Dk} {L : Lay} {gs : List (List ByteArray)} {ev q : Value} (h : Sv w base B Lb D k s d L gs ev q wr) (hb : Below wr.heap.size wr w') : Sv w base B Lb D k s d L gs ev q w' :=
  ⟨h.so.below hb (Nat.le_refl _), h.lv, h.on, h.arm, h.room, h.bs, h.bel.trans (hb.mono h.base_le)⟩
theorem Sv.up {w wr : World} {base B Lb D : Nat} {k : Nat} {s : SS} {d : Dk} {L : Lay} {gs : List (List ByteArray)} {ev q : Value} (h : Sv w base B Lb D k s d L gs ev q wr) : Sv w base B Lb D (k + 1) s d L gs ev q wr :=
  ⟨h.so, ⟨h.lv.segs, h.lv.safe, h.lv.of, Nat.le_succ_of_le h.lv.few, Nat.le_succ_of_le h.lv.flat, Nat.le_succ_of_le h.lv.len, by have := h.lv.used; omega, h.lv.sz.up (by omega)⟩, h.on, h.arm, h.room, h.bs, h.bel⟩
theorem Sv.act {w wr w' : World} {base B Lb D : Nat} {k : Nat} {s s' : SS} {d d' : Dk} {L : Lay} {gs : List (List ByteArray)} {ev q : Value} {r : ByteArray} (h : Sv w base B Lb D k s d L gs ev q wr) (hd : Did wr base B Lb D d L ev q d' (addL gs r) false s' w')
    (hl : LiveP d' (addL gs r) s' (k + 1) (1009 * k + (8 + r.size))) (hr : r.size ≤ 1001) (h1 : d'.on = true) (h2 : d'.arm = none) (h3 : d'.room = d.room) : ∃ L' ev' q', Sv w base B Lb D (k + 1) s' d' L' (addL gs r) ev' q' w' := by
  obtain ⟨L', ev', q', a, b, c⟩ := Did.based h.bs h.base_le hd
  exact ⟨L', ev', q', a, ⟨hl.segs, hl.safe, hl.of, hl.few, hl.flat, hl.len, by have := hl.used; omega, hl.sz⟩, h1, h2, h3.trans h.room, b, h.bel.trans c⟩
/-- Blocks that aren't the store's were written. -/
theorem Sv.off {w wr w' : World} {base B Lb D : Nat} {k : Nat} {s : SS} {d : Dk} {L : Lay} {gs : List (List ByteArray)} {ev q : Value} (h : Sv w base B Lb D k s d L gs ev q wr) {S : Nat → Prop} (ho : Off S wr w') (hs : ∀ g, S g → ¬ SoF B Lb D d L ev q g) (hb : ∀ g, S g → base ≤ g) : Sv w base B Lb D k s d L gs ev q w' :=
  ⟨h.so.keep (fun g hg => ho.block g (h.so.lt hg) (fun hh => hs g hh hg)), h.lv, h.on, h.arm, h.room, h.bs, h.bel.trans (ho.below hb h.base_le)⟩
/-- A text of a row is written over. -/
theorem QR.over {w : World} {t : TypeId} {base g off cap : Nat} {l : List ByteArray} (h : QR w t base (.slice (some ⟨g, off, none⟩) l.length cap) l) {k : Nat} (hk : k < l.length) (x : ByteArray) :
    w.cell? ⟨g, off + k, none⟩ = some (.string (l.getD k ByteArray.empty)) ∧ w.frozen? ⟨g, off + k, none⟩ = false ∧ QR (w.setCell ⟨g, off + k, none⟩ (.string x)) t base (.slice (some ⟨g, off, none⟩) l.length cap) (l.set k x) := by
  rcases h with ⟨h1, _⟩ | ⟨g', off', cap', cur, e, hb, hh, h2, h3, h4, h5⟩
  · cases h1
  · cases e
    have hd : (w.setCell ⟨g, off + k, none⟩ (.string x)).heap[g]? = some (.cells (cur.setIfInBounds (off + k) (.string x)) t (0, 0)) := by
      simp [World.setCell, Array.getElem?_modify, hh]
    refine ⟨by simp [World.cell?, hh, h5 k hk], by simp [World.frozen?, hh], .inr ⟨g, off, cap, _, by rw [List.length_set], hb, hd, by simpa using h2, by rw [List.length_set]; exact h3, h4, fun i hi => ?_⟩⟩
    rw [List.length_set] at hi
    rw [Array.getElem?_setIfInBounds]
    by_cases hik : i = k
    · subst hik
      rw [if_pos rfl, if_pos (by omega), List.getD_eq_getElem?_getD, List.getElem?_set_self hk]; rfl
    · rw [if_neg (by omega), h5 i hi, List.getD_eq_getElem?_getD, List.getD_eq_getElem?_getD, List.getElem?_set_ne (by omega)]
/-- Two rows of one's own, each as long as it was, and nothing else touched. -/
structure Spo (w5 : World) (base : Nat) (v1 v2 : Value) (n1 n2 : Nat) (wr : World) : Prop where
  off : Off (fun g => v1.ownBlock = some g ∨ v2.ownBlock = some g) w5 wr
  r1 : ∃ l, l.length = n1 ∧ QR wr 9 base v1 l
  r2 : ∃ l, l.length = n2 ∧ QR wr 9 base v2 l
  apart : ∀ g, v1.ownBlock = some g → v2.ownBlock ≠ some g
theorem Spo.at1 {w5 wr : World} {base : Nat} {a1 : Option Addr} {c1 : Nat} {v2 : Value} {n1 n2 : Nat} (h : Spo w5 base (.slice a1 n1 c1) v2 n1 n2 wr) {k : Nat} (hk : k < n1) (x : ByteArray) :
    ∃ g off y, a1 = some ⟨g, off, none⟩ ∧ wr.cell? ⟨g, off + k, none⟩ = some (.string y) ∧ wr.frozen? ⟨g, off + k, none⟩ = false ∧ Spo w5 base (.slice a1 n1 c1) v2 n1 n2 (wr.setCell ⟨g, off + k, none⟩ (.string x)) := by
  obtain ⟨l, hl, hq⟩ := h.r1
  have hq0 := hq
  rcases hq0 with ⟨_, h1⟩ | ⟨g, off, cap, cur, e, _⟩
  · rw [h1] at hl; simp at hl; omega
  · cases e
    obtain ⟨p1, p2, p3⟩ := QR.over hq hk x
    refine ⟨g, off, _, rfl, p1, p2, ⟨h.off.set (p := ⟨g, off + k, none⟩) (.inr (.inl rfl)) _, ⟨_, List.length_set .., by simpa using p3⟩, ?_, h.apart⟩⟩
    obtain ⟨l2, hl2, hq2⟩ := h.r2
    exact ⟨l2, hl2, cell_keep hq2 (h.apart g rfl)⟩
theorem Spo.at2 {w5 wr : World} {base : Nat} {a2 : Option Addr} {c2 : Nat} {v1 : Value} {n1 n2 : Nat} (h : Spo w5 base v1 (.slice a2 n2 c2) n1 n2 wr) {k : Nat} (hk : k < n2) (x : ByteArray) :
    ∃ g off y, a2 = some ⟨g, off, none⟩ ∧ wr.cell? ⟨g, off + k, none⟩ = some (.string y) ∧ wr.frozen? ⟨g, off + k, none⟩ = false ∧ Spo w5 base v1 (.slice a2 n2 c2) n1 n2 (wr.setCell ⟨g, off + k, none⟩ (.string x)) := by
  obtain ⟨l, hl, hq⟩ := h.r2
  have hq0 := hq
  rcases hq0 with ⟨_, h1⟩ | ⟨g, off, cap, cur, e, _⟩
  · rw [h1] at hl; simp at hl; omega
  · cases e
    obtain ⟨p1, p2, p3⟩ := QR.over hq hk x
    refine ⟨g, off, _, rfl, p1, p2, ⟨h.off.set (p := ⟨g, off + k, none⟩) (.inr (.inr rfl)) _, ?_, ⟨_, List.length_set .., by simpa using p3⟩, h.apart⟩⟩
    obtain ⟨l2, hl2, hq2⟩ := h.r1
    exact ⟨l2, hl2, cell_keep hq2 (fun e => h.apart g e rfl)⟩
end Go.Proofs.YtffnkomnldgcaaaGreatDoor
namespace Go.Proofs.YtffnkomnldgcaaaGreatDoor
open Go.RowKit Go.Pal Go.Pal.Dk Go.Pal.Fr Go.Pal.Cr

/-- The calls of the comparison, over one older world. -/
theorem state_at {w7 : World} {base B : Nat} {p : Value} {s : SS} {ev q : Value} (h : StAt w7 base B p s ev q) (hz : SzS s 1000000) (Wq : World) (hq : Below w7.heap.size w7 Wq) :
    Calls Tryz.prog 13 #[.pointer (some ⟨B, 0, none⟩)] Wq fun e w' => ∃ v, e = .returned (vsV s v) ∧ VsAt w' s v ∧ Below w7.heap.size w7 w' := by
  refine (state_any (h.keep (w' := Wq) (fun g hg => hq.block g (h.row_lt hg))) hz).mono ?_
  intro e w' ht
  obtain ⟨v, a, b, c⟩ := ht.vs
  exact ⟨v, a, b, hq.trans (c.mono hq.size)⟩
theorem as_at {w7 : World} {s : SS} (Wq : World) (v : Vs) (hv : VsAt Wq s v) (hq : Below w7.heap.size w7 Wq) :
    Calls Tryz.prog 12 #[vsV s v] Wq fun e w' => e = .returned (vsV s v) ∧ VsAt w' s v ∧ Below w7.heap.size w7 w' :=
  (as_any Wq s v).mono (fun _ _ ⟨a, b⟩ => ⟨a, hv.below b, hq.trans (b.mono hq.size)⟩)
theorem same_at {w7 : World} {s t : SS} {u : Vs} (hs : SzS s 1000000) (ht : SzS t 1000000) (hu : VsAt w7 t u) (Wq : World) (v : Vs) (hv : VsAt Wq s v) (hq : Below w7.heap.size w7 Wq) :
    Calls Tryz.prog 15 #[vsV s v, vsV t u] Wq fun e w' => e = .returned (.bool (sameB s t)) ∧ Below w7.heap.size w7 w' :=
  (same_so Wq s t v u hv (hu.below hq) hs ht).mono (fun _ _ ⟨a, b⟩ => ⟨a, hq.trans (b.mono hq.size)⟩)
theorem VsAt.keep {w w' : World} {s : SS} {v : Vs} (h : VsAt w s v) (h1 : ∀ g, g < w.heap.size → (Value.slice v.a1 s.events.length v.c1).ownBlock = some g → w'.heap[g]? = w.heap[g]?) (h2 : ∀ g, g < w.heap.size → (Value.slice v.a2 s.queue.length v.c2).ownBlock = some g → w'.heap[g]? = w.heap[g]?) : VsAt w' s v := by
  have hk : ∀ (a : Option Addr) (l : List ByteArray) (c : Nat), (∀ g, g < w.heap.size → (Value.slice a l.length c).ownBlock = some g → w'.heap[g]? = w.heap[g]?) → StrRow w a l → StrRow w' a l := by
    intro a l c hn hr
    rcases hr with h0 | ⟨b, off, e, hl, hc⟩
    · exact .inl h0
    · subst e
      have h4 := hn b hl (by simp [Value.ownBlock])
      refine .inr ⟨b, off, rfl, ?_, fun i hi => (World.cell?_of_block (a := ⟨b, off + i, none⟩) h4).trans (hc i hi)⟩
      rcases Nat.lt_or_ge b w'.heap.size with h5 | h5
      · exact h5
      · rw [Array.getElem?_eq_none h5] at h4
        have := Array.getElem?_eq_none_iff.1 h4.symm
        omega
  exact ⟨hk _ _ _ h1 h.r1, hk _ _ _ h2 h.r2, h.n1, h.n2⟩
/-- A state whose rows lie elsewhere, behind four stores into a box. -/
theorem VsAt.set4 {w : World} {s : SS} {v : Vs} (h : VsAt w s v) {R : Nat} (h1 : (Value.slice v.a1 s.events.length v.c1).ownBlock ≠ some R) (h2 : (Value.slice v.a2 s.queue.length v.c2).ownBlock ≠ some R) (a0 a1 a2 a3 : Value) : VsAt ((((w.setCell ⟨R, 0, none⟩ a0).setCell ⟨R, 1, none⟩ a1).setCell ⟨R, 2, none⟩ a2).setCell ⟨R, 3, none⟩ a3) s v := by
  have hk : ∀ (a : Option Addr) (l : List ByteArray) (c : Nat), (Value.slice a l.length c).ownBlock ≠ some R → StrRow w a l → StrRow ((((w.setCell ⟨R, 0, none⟩ a0).setCell ⟨R, 1, none⟩ a1).setCell ⟨R, 2, none⟩ a2).setCell ⟨R, 3, none⟩ a3) a l := by
    intro a l c hn hr
    rcases hr with h0 | ⟨b, off, e, hl, hc⟩
    · exact .inl h0
    · subst e
      have hb : b ≠ R := fun e => hn (by simp [Value.ownBlock, e])
      have h4 := heap4 w R b hb a0 a1 a2 a3
      refine .inr ⟨b, off, rfl, ?_, fun i hi => (World.cell?_of_block (a := ⟨b, off + i, none⟩) h4).trans (hc i hi)⟩
      rcases Nat.lt_or_ge b ((((w.setCell ⟨R, 0, none⟩ a0).setCell ⟨R, 1, none⟩ a1).setCell ⟨R, 2, none⟩ a2).setCell ⟨R, 3, none⟩ a3).heap.size with h5 | h5
      · exact h5
      · rw [Array.getElem?_eq_none h5] at h4
        have := Array.getElem?_eq_none_iff.1 h4.symm
        omega
  exact ⟨hk _ _ _ h1 h.r1, hk _ _ _ h2 h.r2, h.n1, h.n2⟩
end Go.Proofs.YtffnkomnldgcaaaGreatDoor
namespace Go.Proofs.YtffnkomnldgcaaaGreatDoor
open Go.RowKit Go.Pal Go.Pal.Dk Go.Pal.Fr Go.Pal.Cr

/-- What is kept: of a store that goes on (br = false), or behind the act that failed (br = true: u its record). -/
structure Pc (w : World) (base B Lb D : Nat) (k : Nat) (s : SS) (d : Dk) (L : Lay) (gs : List (List ByteArray)) (br : Bool) (ev q v : Value) (u : ByteArray) (wr : World) : Prop where
  so : SoAt wr base B Lb D d L gs br s ev q
  of : ofR ss0 gs.flatten = some s
  flat : gs.flatten.length ≤ k
  recs : ∀ r ∈ gs.flatten, r.size ≤ 65535
  sz : SzS s k
  room : d.room = 1048576
  bs : BaseS base B Lb D d L ev q
  row : QR wr 9 base v gs.flatten
  apart : ∀ g, v.ownBlock = some g → ¬ SoF B Lb D d L ev q g
  bel : Below base w wr
  live : br = false → LiveP d gs s k (1009 * k) ∧ u = ByteArray.empty
  und : br = true → u.size ≠ 0 ∧ u.size ≤ 65535 ∧ ∃ s', takeR s u = some s'
  len : d.files.length ≤ k
  crash : ∀ keep, ∃ gs2 tl, Segs (crashF keep 0 d.files) gs2 tl ∧ (gs2.flatten = gs.flatten ∨ (br = true ∧ gs2.flatten = gs.flatten ++ [u]))
theorem Pc.ofLive {w wr : World} {base B Lb D : Nat} {k : Nat} {s : SS} {d : Dk} {L : Lay} {gs : List (List ByteArray)} {ev q v : Value} (so : SoAt wr base B Lb D d L gs false s ev q) (lv : LiveP d gs s k (1009 * k)) (room : d.room = 1048576) (bs : BaseS base B Lb D d L ev q)
    (row : QR wr 9 base v gs.flatten) (apart : ∀ g, v.ownBlock = some g → ¬ SoF B Lb D d L ev q g) (bel : Below base w wr) : Pc w base B Lb D k s d L gs false ev q v ByteArray.empty wr :=
  ⟨so, lv.of, lv.flat, lv.segs.recs, lv.sz, room, bs, row, apart, bel, fun _ => ⟨lv, rfl⟩, fun h => (by cases h), lv.len, fun keep => ⟨gs, ByteArray.empty, segs_crash lv.segs lv.safe so.dk.good.safe keep, .inl rfl⟩⟩
theorem Pc.base_le {w wr : World} {base B Lb D : Nat} {k : Nat} {s : SS} {d : Dk} {L : Lay} {gs : List (List ByteArray)} {br : Bool} {ev q v : Value} {u : ByteArray} (h : Pc w base B Lb D k s d L gs br ev q v u wr) : base ≤ wr.heap.size := Nat.le_trans h.so.dk.dbase (Nat.le_of_lt h.so.dk.blk.lt)
theorem Pc.below {w wr w' : World} {base B Lb D : Nat} {k : Nat} {s : SS} {d : Dk} {L : Lay} {gs : List (List ByteArray)} {br : Bool} {ev q v : Value} {u : ByteArray} (h : Pc w base B Lb D k s d L gs br ev q v u wr) (hb : Below wr.heap.size wr w') : Pc w base B Lb D k s d L gs br ev q v u w' :=
  ⟨h.so.below hb (Nat.le_refl _), h.of, h.flat, h.recs, h.sz, h.room, h.bs, h.row.below hb (Nat.le_refl _), h.apart, h.bel.trans (hb.mono h.base_le), h.live, h.und, h.len, h.crash⟩
theorem Pc.up {w wr : World} {base B Lb D : Nat} {k : Nat} {s : SS} {d : Dk} {L : Lay} {gs : List (List ByteArray)} {ev q v : Value} {u : ByteArray} (h : Pc w base B Lb D k s d L gs false ev q v u wr) : Pc w base B Lb D (k + 1) s d L gs false ev q v u wr := by
  have hl := (h.live rfl).1
  exact ⟨h.so, h.of, Nat.le_succ_of_le h.flat, h.recs, h.sz.up (Nat.le_succ _), h.room, h.bs, h.row, h.apart, h.bel, fun _ => ⟨⟨hl.segs, hl.safe, hl.of, Nat.le_succ_of_le hl.few, Nat.le_succ_of_le hl.flat, Nat.le_succ_of_le hl.len, by have := hl.used; omega, hl.sz.up (Nat.le_succ _)⟩, (h.live rfl).2⟩, h.und, Nat.le_succ_of_le h.len, h.crash⟩
theorem Pc.rowDid {w wr w' : World} {base B Lb D : Nat} {k : Nat} {s s' : SS} {d d' : Dk} {L : Lay} {gs gs' : List (List ByteArray)} {br br' : Bool} {ev q v : Value} {u : ByteArray} (h : Pc w base B Lb D k s d L gs br ev q v u wr) (hd : Did wr base B Lb D d L ev q d' gs' br' s' w') : QR w' 9 base v gs.flatten ∧ base ≤ w'.heap.size ∧ wr.heap.size ≤ w'.heap.size := by
  obtain ⟨L', ev', q', a, b, c⟩ := hd
  exact ⟨h.row.keep (fun g hg => b.block g (h.row.lt hg).1 (h.apart g hg)), Nat.le_trans h.base_le b.size, b.size⟩
/-- An act that was laid, and its record laid by. -/
theorem Pc.act {w wr w' w2 : World} {base B Lb D : Nat} {k : Nat} {s s' : SS} {d d' : Dk} {L : Lay} {gs : List (List ByteArray)} {ev q v v2 : Value} {u r : ByteArray} {o : Obj} (h : Pc w base B Lb D k s d L gs false ev q v u wr) (hd : Did wr base B Lb D d L ev q d' (addL gs r) false s' w')
    (hl : LiveP d' (addL gs r) s' (k + 1) (1009 * k + (8 + r.size))) (hr : r.size ≤ 1001) (h3 : d'.room = d.room)
    (hq : QR w2 9 base v2 (gs.flatten ++ [r])) (hg : (w'.alloc o).grownBy w2 v.ownBlock) (ha : ∀ b, v2.ownBlock = some b → v.ownBlock = some b ∨ w'.heap.size + 1 ≤ b) : ∃ L' ev' q', Pc w base B Lb D (k + 1) s' d' L' (addL gs r) false ev' q' v2 ByteArray.empty w2 := by
  have hbw := h.base_le
  obtain ⟨L', ev', q', a, b, c⟩ := hd
  have hvn : ∀ g, v.ownBlock = some g → ¬ SoF B Lb D d' L' ev' q' g := fun g hv hs => by
    rcases c g hs with h4 | h4
    · exact h.apart g hv h4
    · have := (h.row.lt hv).1; omega
  have hz : (w'.alloc o).heap.size = w'.heap.size + 1 := by simp
  have hke : ∀ g, g < w'.heap.size → v.ownBlock ≠ some g → w2.heap[g]? = w'.heap[g]? := fun g hl2 hne => (hg.block g (by omega) (fun e => hne e.symm)).trans (heap_alloc_old w' o hl2)
  refine ⟨L', ev', q', Pc.ofLive (a.keep (fun g hs => hke g (a.lt hs) (fun e => hvn g e hs))) ⟨hl.segs, hl.safe, hl.of, hl.few, hl.flat, hl.len, by have := hl.used; omega, hl.sz⟩ (h3.trans h.room) (fun g hs => ?_) (by rw [addL_flat]; exact hq) (fun g hv hs => ?_) ?_⟩
  · rcases c g hs with h4 | h4
    · exact h.bs g h4
    · omega
  · rcases ha g hv with h4 | h4
    · exact hvn g h4 hs
    · have := a.lt hs; omega
  · refine h.bel.trans ((b.below h.bs hbw).trans ?_)
    exact ⟨hg.os, hg.tape, hg.output, by have := hg.size; omega, fun g hl2 => hke g (by have := b.size; omega) (fun e => by have := (h.row.lt e).2.1; omega)⟩
/-- An act that failed. -/
theorem Pc.bad {w wr w' : World} {base B Lb D : Nat} {k : Nat} {s s' : SS} {d d' : Dk} {L : Lay} {gs : List (List ByteArray)} {ev q v : Value} {u r : ByteArray} (h : Pc w base B Lb D k s d L gs false ev q v u wr) (hk : k ≤ 58) (hd : Did wr base B Lb D d L ev q d' gs true s w') (hb : BadD d gs r d')
    (hr : r.size ≤ 65535) (hr0 : r.size ≠ 0) (ht : takeR s r = some s') : ∃ L' ev' q', Pc w base B Lb D (k + 1) s d' L' gs true ev' q' v r w' := by
  have hbw := h.base_le
  have hl := (h.live rfl).1
  have hq := (h.rowDid hd).1
  obtain ⟨L', ev', q', a, b, c⟩ := hd
  refine ⟨L', ev', q', ⟨a, h.of, Nat.le_succ_of_le h.flat, h.recs, h.sz.up (Nat.le_succ _), hb.room.trans h.room, fun g hs => ?_, hq, fun g hv hs => ?_, h.bel.trans (b.below h.bs hbw), fun e => (by cases e), fun _ => ⟨hr0, hr, s', ht⟩, ?_, fun keep => ?_⟩⟩
  · rcases c g hs with h4 | h4
    · exact h.bs g h4
    · omega
  · rcases c g hs with h4 | h4
    · exact h.apart g hv h4
    · have := (h.row.lt hv).1; omega
  · have hln := h.len
    rcases hb.files with hf | hf
    · rw [hf]; omega
    · rw [hf]; have := (used_put (l := d.files) h.so.dk.good.sorted (segN (nextL gs)) (sealB r)).2; omega
  · rcases hb.files with hf | hf
    · exact ⟨gs, ByteArray.empty, by rw [hf]; exact segs_crash hl.segs hl.safe (by rw [← hf]; exact a.dk.good.safe) keep, .inl rfl⟩
    · have hsafe := a.dk.good.safe
      rw [hf] at hsafe ⊢
      obtain ⟨gs2, tl, h1, h2, _⟩ := segs_crash_under hl.segs hl.safe h.so.dk.good.sorted (by have := hl.few; omega) r hr hsafe keep
      rcases h2 with h2 | h2
      · exact ⟨gs2, tl, h1, .inl h2⟩
      · exact ⟨gs2, tl, h1, .inr ⟨rfl, h2⟩⟩
/-- What is behind a crash and an opening. -/
theorem crash_keep {w w1 : World} {base D : Nat} {d d1 : Dk} {L : Lay} (hd : DkAt w base D d L) (hw : Went w base D d L d1 w1) : ∃ L1, DkAt w1 base D d1 L1 ∧ (∀ g, g < w.heap.size → ¬ Foot D d.files L g → w1.heap[g]? = w.heap[g]?) ∧ Below base w w1 ∧ ((∀ g, Foot D d1.files L1 g → Foot D d.files L g ∨ w.heap.size ≤ g) ∧ w.heap.size ≤ w1.heap.size) ∧
    ∀ (S : Nat → Prop) (w2 : World), (∀ g, S g → Foot D d1.files L1 g) → Off S w1 w2 → (∀ g, g < w.heap.size → ¬ Foot D d.files L g → w2.heap[g]? = w.heap[g]?) ∧ Below base w w2 := by
  obtain ⟨L1, h1, h2, h3⟩ := hw
  have hb : base ≤ w.heap.size := Nat.le_trans hd.dbase (Nat.le_of_lt hd.blk.lt)
  have hb1 : Below base w w1 := h2.below (fun g hg => hd.foot_base hg) hb
  refine ⟨L1, h1, fun g hg hf => h2.block g hg hf, hb1, ⟨h3, h2.size⟩, fun S w2 hS ho => ⟨fun g hg hf => (ho.block g (by have := h2.size; omega) (fun hs => ?_)).trans (h2.block g hg hf), hb1.trans (ho.below (fun g hg => h1.foot_base (hS g hg)) (Nat.le_trans hb h2.size))⟩⟩
  rcases h3 g (hS g hs) with h4 | h4
  · exact hf h4
  · omega
/-- A disk whose head was written. -/
theorem SoAt.head {w w' : World} {base B Lb D : Nat} {d d' : Dk} {L : Lay} {gs : List (List ByteArray)} {br : Bool} {s : SS} {ev q : Value} (h : SoAt w base B Lb D d L gs br s ev q) (h1 : DkAt w' base D d' L) (hg : w.grownBy w' (some D)) : SoAt w' base B Lb D d' L gs br s ev q := by
  have hD : Foot D d.files L D := .inl rfl
  refine ⟨h.st.keep (fun g hr => hg.block g (h.lt (.inl hr)) (fun e => (h.row_apart hr).2 (by cases e; exact hD))), h.lg.keep (hg.block Lb (Blk.lt h.lg) (fun e => ?_)), h1⟩
  cases e
  exact h.dk.not_typ h.lg (by decide) (by decide) (by decide) hD
theorem below_head {w w' : World} {base D : Nat} (hg : w.grownBy w' (some D)) (hD : base ≤ D) (hb : base ≤ w.heap.size) : Below base w w' := ⟨hg.os, hg.tape, hg.output, hg.size, fun g hl => hg.block g (by omega) (fun e => by cases e; omega)⟩
theorem live_arm {d : Dk} {gs : List (List ByteArray)} {s : SS} {n m : Nat} (h : LiveP d gs s n m) (k : Int) : LiveP (armD d k) gs s n m := ⟨h.segs, h.safe, h.of, h.few, h.flat, h.len, h.used, h.sz⟩
theorem state_two {w7 : World} {base B : Nat} {p : Value} {s : SS} {ev q : Value} (h : StAt w7 base B p s ev q) (hz : SzS s 1000000) (Wq : World) (hq : Below w7.heap.size w7 Wq) :
    Calls Tryz.prog 13 #[.pointer (some ⟨B, 0, none⟩)] Wq fun e w' => ∃ v, e = .returned (vsV s v) ∧ VsAt w' s v ∧ Below w7.heap.size w7 w' := state_at h hz Wq hq
end Go.Proofs.YtffnkomnldgcaaaGreatDoor
