/-
  A store whose disk may fail under way: what is kept from act to act, and what a crash leaves of it.
-/
import Derived.Test.YtffnkomnldgcaaaGreatDoorSo20
import Derived.Test.YtffnkomnldgcaaaGreatDoorSo19
namespace Go.Proofs.YtffnkomnldgcaaaGreatDoor
open Go.RowKit Go.Pal Go.Pal.Dk Go.Pal.Fr Go.Pal.Cr

/-- What is kept: of a store that goes on (br = false), or behind the act that failed (br = true: u its record). -/
structure Pc (w : World) (base B Lb D : Nat) (k : Nat) (s : SS) (d : Dk) (L : Lay) (gs : List (List ByteArray)) (br : Bool) (ev q v : Value) (u : ByteArray) (wr : World) : Prop where
  so : SoAt wr base B Lb D d L gs br s ev q
  of : ofR ss0 gs.flatten = some s
  flat : gs.flatten.length ≤ k
  recs : ∀ r ∈ gs.flatten, r.size ≤ 65535
  sz : SzS s k
  room : d.room = 1048576
  bs : BaseS base B Lb D d L ev q
  row : QR wr 9 base v gs.flatten
  apart : ∀ g, v.ownBlock = some g → ¬ SoF B Lb D d L ev q g
  bel : Below base w wr
  live : br = false → LiveP d gs s k (1009 * k) ∧ u = ByteArray.empty
  und : br = true → u.size ≠ 0 ∧ u.size ≤ 65535 ∧ ∃ s', takeR s u = some s'
  len : d.files.length ≤ k
  crash : ∀ keep, ∃ gs2 tl, Segs (crashF keep 0 d.files) gs2 tl ∧ (gs2.flatten = gs.flatten ∨ (br = true ∧ gs2.flatten = gs.flatten ++ [u]))
theorem Pc.ofLive {w wr : World} {base B Lb D : Nat} {k : Nat} {s : SS} {d : Dk} {L : Lay} {gs : List (List ByteArray)} {ev q v : Value} (so : SoAt wr base B Lb D d L gs false s ev q) (lv : LiveP d gs s k (1009 * k)) (room : d.room = 1048576) (bs : BaseS base B Lb D d L ev q)
    (row : QR wr 9 base v gs.flatten) (apart : ∀ g, v.ownBlock = some g → ¬ SoF B Lb D d L ev q g) (bel : Below base w wr) : Pc w base B Lb D k s d L gs false ev q v ByteArray.empty wr :=
  ⟨so, lv.of, lv.flat, lv.segs.recs, lv.sz, room, bs, row, apart, bel, fun _ => ⟨lv, rfl⟩, fun h => (by cases h), lv.len, fun keep => ⟨gs, ByteArray.empty, segs_crash lv.segs lv.safe so.dk.good.safe keep, .inl rfl⟩⟩
theorem Pc.base_le {w wr : World} {base B Lb D : Nat} {k : Nat} {s : SS} {d : Dk} {L : Lay} {gs : List (List ByteArray)} {br : Bool} {ev q v : Value} {u : ByteArray} (h : Pc w base B Lb D k s d L gs br ev q v u wr) : base ≤ wr.heap.size := Nat.le_trans h.so.dk.dbase (Nat.le_of_lt h.so.dk.blk.lt)
theorem Pc.below {w wr w' : World} {base B Lb D : Nat} {k : Nat} {s : SS} {d : Dk} {L : Lay} {gs : List (List ByteArray)} {br : Bool} {ev q v : Value} {u : ByteArray} (h : Pc w base B Lb D k s d L gs br ev q v u wr) (hb : Below wr.heap.size wr w') : Pc w base B Lb D k s d L gs br ev q v u w' :=
  ⟨h.so.below hb (Nat.le_refl _), h.of, h.flat, h.recs, h.sz, h.room, h.bs, h.row.below hb (Nat.le_refl _), h.apart, h.bel.trans (hb.mono h.base_le), h.live, h.und, h.len, h.crash⟩
theorem Pc.up {w wr : World} {base B Lb D : Nat} {k : Nat} {s : SS} {d : Dk} {L : Lay} {gs : List (List ByteArray)} {ev q v : Value} {u : ByteArray} (h : Pc w base B Lb D k s d L gs false ev q v u wr) : Pc w base B Lb D (k + 1) s d L gs false ev q v u wr := by
  have hl := (h.live rfl).1
  exact ⟨h.so, h.of, Nat.le_succ_of_le h.flat, h.recs, h.sz.up (Nat.le_succ _), h.room, h.bs, h.row, h.apart, h.bel, fun _ => ⟨⟨hl.segs, hl.safe, hl.of, Nat.le_succ_of_le hl.few, Nat.le_succ_of_le hl.flat, Nat.le_succ_of_le hl.len, by have := hl.used; omega, hl.sz.up (Nat.le_succ _)⟩, (h.live rfl).2⟩, h.und, Nat.le_succ_of_le h.len, h.crash⟩
theorem Pc.rowDid {w wr w' : World} {base B Lb D : Nat} {k : Nat} {s s' : SS} {d d' : Dk} {L : Lay} {gs gs' : List (List ByteArray)} {br br' : Bool} {ev q v : Value} {u : ByteArray} (h : Pc w base B Lb D k s d L gs br ev q v u wr) (hd : Did wr base B Lb D d L ev q d' gs' br' s' w') : QR w' 9 base v gs.flatten ∧ base ≤ w'.heap.size ∧ wr.heap.size ≤ w'.heap.size := by
  obtain ⟨L', ev', q', a, b, c⟩ := hd
  exact ⟨h.row.keep (fun g hg => b.block g (h.row.lt hg).1 (h.apart g hg)), Nat.le_trans h.base_le b.size, b.size⟩
/-- An act that was laid, and its record laid by. -/
theorem Pc.act {w wr w' w2 : World} {base B Lb D : Nat} {k : Nat} {s s' : SS} {d d' : Dk} {L : Lay} {gs : List (List ByteArray)} {ev q v v2 : Value} {u r : ByteArray} {o : Obj} (h : Pc w base B Lb D k s d L gs false ev q v u wr) (hd : Did wr base B Lb D d L ev q d' (addL gs r) false s' w')
    (hl : LiveP d' (addL gs r) s' (k + 1) (1009 * k + (8 + r.size))) (hr : r.size ≤ 1001) (h3 : d'.room = d.room)
    (hq : QR w2 9 base v2 (gs.flatten ++ [r])) (hg : (w'.alloc o).grownBy w2 v.ownBlock) (ha : ∀ b, v2.ownBlock = some b → v.ownBlock = some b ∨ w'.heap.size + 1 ≤ b) : ∃ L' ev' q', Pc w base B Lb D (k + 1) s' d' L' (addL gs r) false ev' q' v2 ByteArray.empty w2 := by
  have hbw := h.base_le
  obtain ⟨L', ev', q', a, b, c⟩ := hd
  have hvn : ∀ g, v.ownBlock = some g → ¬ SoF B Lb D d' L' ev' q' g := fun g hv hs => by
    rcases c g hs with h4 | h4
    · exact h.apart g hv h4
    · have := (h.row.lt hv).1; omega
  have hz : (w'.alloc o).heap.size = w'.heap.size + 1 := by simp
  have hke : ∀ g, g < w'.heap.size → v.ownBlock ≠ some g → w2.heap[g]? = w'.heap[g]? := fun g hl2 hne => (hg.block g (by omega) (fun e => hne e.symm)).trans (heap_alloc_old w' o hl2)
  refine ⟨L', ev', q', Pc.ofLive (a.keep (fun g hs => hke g (a.lt hs) (fun e => hvn g e hs))) ⟨hl.segs, hl.safe, hl.of, hl.few, hl.flat, hl.len, by have := hl.used; omega, hl.sz⟩ (h3.trans h.room) (fun g hs => ?_) (by rw [addL_flat]; exact hq) (fun g hv hs => ?_) ?_⟩
  · rcases c g hs with h4 | h4
    · exact h.bs g h4
    · omega
  · rcases ha g hv with h4 | h4
    · exact hvn g h4 hs
    · have := a.lt hs; omega
  · refine h.bel.trans ((b.below h.bs hbw).trans ?_)
    exact ⟨hg.os, hg.tape, hg.output, by have := hg.size; omega, fun g hl2 => hke g (by have := b.size; omega) (fun e => by have := (h.row.lt e).2.1; omega)⟩
/-- An act that failed. -/
theorem Pc.bad {w wr w' : World} {base B Lb D : Nat} {k : Nat} {s s' : SS} {d d' : Dk} {L : Lay} {gs : List (List ByteArray)} {ev q v : Value} {u r : ByteArray} (h : Pc w base B Lb D k s d L gs false ev q v u wr) (hk : k ≤ 58) (hd : Did wr base B Lb D d L ev q d' gs true s w') (hb : BadD d gs r d')
    (hr : r.size ≤ 65535) (hr0 : r.size ≠ 0) (ht : takeR s r = some s') : ∃ L' ev' q', Pc w base B Lb D (k + 1) s d' L' gs true ev' q' v r w' := by
  have hbw := h.base_le
  have hl := (h.live rfl).1
  have hq := (h.rowDid hd).1
  obtain ⟨L', ev', q', a, b, c⟩ := hd
  refine ⟨L', ev', q', ⟨a, h.of, Nat.le_succ_of_le h.flat, h.recs, h.sz.up (Nat.le_succ _), hb.room.trans h.room, fun g hs => ?_, hq, fun g hv hs => ?_, h.bel.trans (b.below h.bs hbw), fun e => (by cases e), fun _ => ⟨hr0, hr, s', ht⟩, ?_, fun keep => ?_⟩⟩
  · rcases c g hs with h4 | h4
    · exact h.bs g h4
    · omega
  · rcases c g hs with h4 | h4
    · exact h.apart g hv h4
    · have := (h.row.lt hv).1; omega
  · have hln := h.len
    rcases hb.files with hf | hf
    · rw [hf]; omega
    · rw [hf]; have := (used_put (l := d.files) h.so.dk.good.sorted (segN (nextL gs)) (sealB r)).2; omega
  · rcases hb.files with hf | hf
    · exact ⟨gs, ByteArray.empty, by rw [hf]; exact segs_crash hl.segs hl.safe (by rw [← hf]; exact a.dk.good.safe) keep, .inl rfl⟩
    · have hsafe := a.dk.good.safe
      rw [hf] at hsafe ⊢
      obtain ⟨gs2, tl, h1, h2, _⟩ := segs_crash_under hl.segs hl.safe h.so.dk.good.sorted (by have := hl.few; omega) r hr hsafe keep
      rcases h2 with h2 | h2
      · exact ⟨gs2, tl, h1, .inl h2⟩
      · exact ⟨gs2, tl, h1, .inr ⟨rfl, h2⟩⟩
/-- What is behind a crash and an opening. -/
theorem crash_keep {w w1 : World} {base D : Nat} {d d1 : Dk} {L : Lay} (hd : DkAt w base D d L) (hw : Went w base D d L d1 w1) : ∃ L1, DkAt w1 base D d1 L1 ∧ (∀ g, g < w.heap.size → ¬ Foot D d.files L g → w1.heap[g]? = w.heap[g]?) ∧ Below base w w1 ∧ ((∀ g, Foot D d1.files L1 g → Foot D d.files L g ∨ w.heap.size ≤ g) ∧ w.heap.size ≤ w1.heap.size) ∧
    ∀ (S : Nat → Prop) (w2 : World), (∀ g, S g → Foot D d1.files L1 g) → Off S w1 w2 → (∀ g, g < w.heap.size → ¬ Foot D d.files L g → w2.heap[g]? = w.heap[g]?) ∧ Below base w w2 := by
  obtain ⟨L1, h1, h2, h3⟩ := hw
  have hb : base ≤ w.heap.size := Nat.le_trans hd.dbase (Nat.le_of_lt hd.blk.lt)
  have hb1 : Below base w w1 := h2.below (fun g hg => hd.foot_base hg) hb
  refine ⟨L1, h1, fun g hg hf => h2.block g hg hf, hb1, ⟨h3, h2.size⟩, fun S w2 hS ho => ⟨fun g hg hf => (ho.block g (by have := h2.size; omega) (fun hs => ?_)).trans (h2.block g hg hf), hb1.trans (ho.below (fun g hg => h1.foot_base (hS g hg)) (Nat.le_trans hb h2.size))⟩⟩
  rcases h3 g (hS g hs) with h4 | h4
  · exact hf h4
  · omega
/-- A disk whose head was written. -/
theorem SoAt.head {w w' : World} {base B Lb D : Nat} {d d' : Dk} {L : Lay} {gs : List (List ByteArray)} {br : Bool} {s : SS} {ev q : Value} (h : SoAt w base B Lb D d L gs br s ev q) (h1 : DkAt w' base D d' L) (hg : w.grownBy w' (some D)) : SoAt w' base B Lb D d' L gs br s ev q := by
  have hD : Foot D d.files L D := .inl rfl
  refine ⟨h.st.keep (fun g hr => hg.block g (h.lt (.inl hr)) (fun e => (h.row_apart hr).2 (by cases e; exact hD))), h.lg.keep (hg.block Lb (Blk.lt h.lg) (fun e => ?_)), h1⟩
  cases e
  exact h.dk.not_typ h.lg (by decide) (by decide) (by decide) hD
theorem below_head {w w' : World} {base D : Nat} (hg : w.grownBy w' (some D)) (hD : base ≤ D) (hb : base ≤ w.heap.size) : Below base w w' := ⟨hg.os, hg.tape, hg.output, hg.size, fun g hl => hg.block g (by omega) (fun e => by cases e; omega)⟩
theorem live_arm {d : Dk} {gs : List (List ByteArray)} {s : SS} {n m : Nat} (h : LiveP d gs s n m) (k : Int) : LiveP (armD d k) gs s n m := ⟨h.segs, h.safe, h.of, h.few, h.flat, h.len, h.used, h.sz⟩
theorem state_two {w7 : World} {base B : Nat} {p : Value} {s : SS} {ev q : Value} (h : StAt w7 base B p s ev q) (hz : SzS s 1000000) (Wq : World) (hq : Below w7.heap.size w7 Wq) :
    Calls Tryz.prog 13 #[.pointer (some ⟨B, 0, none⟩)] Wq fun e w' => ∃ v, e = .returned (vsV s v) ∧ VsAt w' s v ∧ Below w7.heap.size w7 w' := state_at h hz Wq hq
end Go.Proofs.YtffnkomnldgcaaaGreatDoor
