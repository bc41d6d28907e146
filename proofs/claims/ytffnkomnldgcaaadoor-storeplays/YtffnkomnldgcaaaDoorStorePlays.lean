/-
  P11.1, P11.2: whatever is laid: each answer, the state behind it, and that it is the same when the store is opened again: for every list of acts.
  The tables of the library start as its text lays them (the card ties them).
-/
import Derived.Test.YtffnkomnldgcaaaDoorSo19
import Derived.Test.YtffnkomnldgcaaaDoorSo13
import Derived.Test.YtffnkomnldgcaaaDoorSo16
import Derived.Test.YtffnkomnldgcaaaDoorCards
import Derived.Test.YtffnkomnldgcaaaDoorTie
import Derived.Lib.LaidTab
import Derived.Deep.DeepHandedRow
import Derived.Deep.RegionHeld3
import Derived.ProofKit
import Derived.OpenShut
import Derived.ShutString
import Derived.ChangeOld
import Derived.SevenTiedAt
namespace Go.Proofs.YtffnkomnldgcaaaDoor.StorePlays
open Go.ChangeShapes Go.WideShapes Go.ChangeAt Go.RowKit Go.Pal Go.Pal.Dk Go.Pal.Fr
open Go.ChangeMaps (open_string shut_string)
set_option linter.unusedVariables false

theorem rec_small {s : SS} {kind : Int} {t : ByteArray} {n : Int} (h : (doesR s kind t n).1 = 0) (ht : t.size ≤ 1000 ∨ 65534 < t.size) : (doesR s kind t n).2.size ≤ 1001 := by
  unfold doesR at h ⊢
  split at h
  · rename_i h0
    rw [if_pos h0]
    split at h
    · cases h
    · rename_i h1
      rw [if_neg h1]
      split at h
      · cases h
      · rename_i h2
        rw [if_neg h2, (one_rest 82 t).2.2]; omega
  · rename_i h0
    rw [if_neg h0]
    split at h
    · rename_i h1
      rw [if_pos h1]
      split at h
      · cases h
      · rename_i h2
        rw [if_neg h2, (one_rest 69 t).2.2]; omega
    · rename_i h1
      rw [if_neg h1]
      split at h
      · rename_i h2
        rw [if_pos h2]
        split at h
        · cases h
        · rename_i h3
          rw [if_neg h3, (one_rest 75 _).2.2, be_size]; omega
      · rename_i h2
        rw [if_neg h2]
        split at h
        · rename_i h3
          rw [if_pos h3]
          split at h
          · cases h
          · rename_i h4
            rw [if_neg h4]
            split at h
            · cases h
            · rename_i h5
              rw [if_neg h5, (one_rest 81 t).2.2]; omega
        · rename_i h3
          rw [if_neg h3]
          split at h
          · cases h
          · rename_i h4
            rw [if_neg h4]; decide
/-- What is kept from act to act. -/
structure Pl (w : World) (base B Lb D : Nat) (k : Nat) (s : SS) (d : Dk) (L : Lay) (gs : List (List ByteArray)) (ev q v : Value) (wr : World) : Prop where
  so : SoAt wr base B Lb D d L gs false s ev q
  lv : LiveP d gs s k (1009 * k)
  on : d.on = true
  arm : d.arm = none
  room : d.room = 1048576
  bs : BaseS base B Lb D d L ev q
  row : QR wr 9 base v gs.flatten
  apart : ∀ g, v.ownBlock = some g → ¬ SoF B Lb D d L ev q g
  bel : Below base w wr
theorem Pl.below {w wr w' : World} {base B Lb D : Nat} {k : Nat} {s : SS} {d : Dk} {L : Lay} {gs : List (List ByteArray)} {ev q v : Value} (h : Pl w base B Lb D k s d L gs ev q v wr) (hb : Below wr.heap.size wr w') : Pl w base B Lb D k s d L gs ev q v w' :=
  ⟨h.so.below hb (Nat.le_refl _), h.lv, h.on, h.arm, h.room, h.bs, h.row.below hb (Nat.le_refl _), h.apart, h.bel.trans (hb.mono (Nat.le_trans h.so.dk.dbase (Nat.le_of_lt h.so.dk.blk.lt)))⟩
theorem Pl.up {w wr : World} {base B Lb D : Nat} {k : Nat} {s : SS} {d : Dk} {L : Lay} {gs : List (List ByteArray)} {ev q v : Value} (h : Pl w base B Lb D k s d L gs ev q v wr) : Pl w base B Lb D (k + 1) s d L gs ev q v wr :=
  ⟨h.so, ⟨h.lv.segs, h.lv.safe, h.lv.of, Nat.le_succ_of_le h.lv.few, Nat.le_succ_of_le h.lv.flat, Nat.le_succ_of_le h.lv.len, by have := h.lv.used; omega, h.lv.sz.up (by omega)⟩, h.on, h.arm, h.room, h.bs, h.row, h.apart, h.bel⟩
/-- An act that was laid, and its record laid by. -/
theorem Pl.act {w wr w' w2 : World} {base B Lb D : Nat} {k : Nat} {s s' : SS} {d d' : Dk} {L : Lay} {gs : List (List ByteArray)} {ev q v v2 : Value} {r : ByteArray} {o : Obj} (h : Pl w base B Lb D k s d L gs ev q v wr) (hd : Did wr base B Lb D d L ev q d' (addL gs r) false s' w')
    (hl : LiveP d' (addL gs r) s' (k + 1) (1009 * k + (8 + r.size))) (hr : r.size ≤ 1001) (h1 : d'.on = true) (h2 : d'.arm = none) (h3 : d'.room = d.room)
    (hq : QR w2 9 base v2 (gs.flatten ++ [r])) (hg : (w'.alloc o).grownBy w2 v.ownBlock) (ha : ∀ b, v2.ownBlock = some b → v.ownBlock = some b ∨ w'.heap.size + 1 ≤ b) : ∃ L' ev' q', Pl w base B Lb D (k + 1) s' d' L' (addL gs r) ev' q' v2 w2 ∧ ∀ g, SoF B Lb D d' L' ev' q' g → SoF B Lb D d L ev q g ∨ wr.heap.size ≤ g := by
  have hbw : base ≤ wr.heap.size := Nat.le_trans h.so.dk.dbase (Nat.le_of_lt h.so.dk.blk.lt)
  obtain ⟨L', ev', q', a, b, c⟩ := hd
  have hvn : ∀ g, v.ownBlock = some g → ¬ SoF B Lb D d' L' ev' q' g := fun g hv hs => by
    rcases c g hs with h4 | h4
    · exact h.apart g hv h4
    · have := (h.row.lt hv).1; omega
  have hz : (w'.alloc o).heap.size = w'.heap.size + 1 := by simp
  have hke : ∀ g, g < w'.heap.size → v.ownBlock ≠ some g → w2.heap[g]? = w'.heap[g]? := fun g hl2 hne => (hg.block g (by omega) (fun e => hne e.symm)).trans (heap_alloc_old w' o hl2)
  refine ⟨L', ev', q', ⟨a.keep (fun g hs => hke g (a.lt hs) (fun e => hvn g e hs)), ⟨hl.segs, hl.safe, hl.of, hl.few, hl.flat, hl.len, by have := hl.used; omega, hl.sz⟩, h1, h2, h3.trans h.room, fun g hs => ?_, by rw [addL_flat]; exact hq, fun g hv hs => ?_, ?_⟩, c⟩
  · rcases c g hs with h4 | h4
    · exact h.bs g h4
    · omega
  · rcases ha g hv with h4 | h4
    · exact hvn g h4 hs
    · have := a.lt hs; omega
  · refine h.bel.trans ((b.below h.bs hbw).trans ?_)
    exact ⟨hg.os, hg.tape, hg.output, by have := hg.size; omega, fun g hl2 => hke g (by have := b.size; omega) (fun e => by have := (h.row.lt e).2.1; omega)⟩

theorem Pl.rowDid {w wr w' : World} {base B Lb D : Nat} {k : Nat} {s s' : SS} {d d' : Dk} {L : Lay} {gs gs' : List (List ByteArray)} {ev q v : Value} (h : Pl w base B Lb D k s d L gs ev q v wr) (hd : Did wr base B Lb D d L ev q d' gs' false s' w') : QR w' 9 base v gs.flatten ∧ base ≤ w'.heap.size ∧ (∀ R t l, ¬ SoF B Lb D d L ev q R → Blk wr R t l → Blk w' R t l) ∧ wr.heap.size ≤ w'.heap.size := by
  obtain ⟨L', ev', q', a, b, c⟩ := hd
  have hbw : base ≤ wr.heap.size := Nat.le_trans h.so.dk.dbase (Nat.le_of_lt h.so.dk.blk.lt)
  exact ⟨h.row.keep (fun g hg => b.block g (h.row.lt hg).1 (h.apart g hg)), Nat.le_trans hbw b.size, fun R t l hR hb => (b.block R hb.lt hR).trans hb, b.size⟩
/-- A box of one's own, stored into. -/
theorem Pl.set4 {w wr : World} {base B Lb D : Nat} {k : Nat} {s : SS} {d : Dk} {L : Lay} {gs : List (List ByteArray)} {ev q v : Value} (h : Pl w base B Lb D k s d L gs ev q v wr) {R : Nat} (hR : base ≤ R) (h1 : ∀ g, SoF B Lb D d L ev q g → g ≠ R) (h2 : v.ownBlock ≠ some R) (a0 a1 a2 a3 : Value) : Pl w base B Lb D k s d L gs ev q v ((((wr.setCell ⟨R, 0, none⟩ a0).setCell ⟨R, 1, none⟩ a1).setCell ⟨R, 2, none⟩ a2).setCell ⟨R, 3, none⟩ a3) :=
  ⟨h.so.keep (fun g hg => heap4 wr R g (h1 g hg) _ _ _ _), h.lv, h.on, h.arm, h.room, h.bs, h.row.keep (fun g hg => heap4 wr R g (fun e => h2 (by rw [hg, e])) _ _ _ _), h.apart, below4 h.bel hR _ _ _ _⟩

theorem does_at {w7 : World} (s : SS) (v : Vs) (k : Int) (t : ByteArray) (n : Int) (ht : t.size ≤ 1000000) (hu : s.used ≤ 65535) (hq : s.queue.length ≤ v.c2) (W : World) (hW : Below w7.heap.size w7 W) :
    Calls Tryd.prog 12 #[vsV s v, .int .i64 k, .string t, .int .i64 n] W fun e w' => e = .returned (.tuple #[.string (doesR s k t n).2, .int .i64 (doesR s k t n).1]) ∧ Below w7.heap.size w7 w' :=
  (does_any W s v k t n ht hu hq).mono (fun _ _ ⟨a, b⟩ => ⟨a, hW.trans (b.mono hW.size)⟩)


set_option maxHeartbeats 2000000 in
set_option maxRecDepth 100000 in
theorem walk (x : Option Addr) (cap : Nat) (l : List Sa) (w : World) (hA : SactsAt w x l) :
    Calls Tryd.prog 3 #[.slice x l.length cap] w fun e w' => e = .returned (.bool true) ∧ Below w.heap.size w w' := by
  have HG := Lib.hid (sgreat_any w x cap l hA)
  cases hg : sgreatB l
  · rw [hg] at HG
    obtain ⟨hlen, hsm⟩ := sgreat_no hg
    obtain ⟨i0, I0, Z0, Z1, Z2⟩ : ∃ i : TypeInfo, Tryd.prog.info? 9 = some i ∧ i.zero = some (.string ⟨#[]⟩) ∧ i.size = 1 ∧ i.bytes = 16 := ⟨_, rfl, rfl, rfl, rfl⟩
    have HI := Lib.hid I0
    have HZ0 := Lib.hid Z0
    have HZ1 := Lib.hid Z1
    have HZ2 := Lib.hid Z2
    clear I0 Z0 Z1 Z2
    have HAC := Lib.hid hA
    have HSM := Lib.hid hsm
    clear hg hA hsm
    go_enter Tryd.func3, Tryd.ntmps3
    go_wp2_with fail
    refine HG.out.mono ?_
    rintro e w0 ⟨rfl, rfl⟩
    go_wp2_with fail
    refine (awake11 _).mono ?_
    rintro e w1 ⟨rfl, b1⟩
    have B1 := Lib.hid b1
    clear b1
    have HNEW := Lib.hid (new_yes w1 1048576 (by decide))
    rw [show ((1048576 : Nat) : Int) = 1048576 from rfl] at HNEW
    have HD0 := Lib.hid (new_at w1 w1.heap.size 1048576 (Nat.le_refl _) (by decide))
    rw [show ((1048576 : Nat) : Int) = 1048576 from rfl] at HD0
    go_wp2_with fail
    refine HNEW.out.mono ?_
    rintro e w2 ⟨rfl, rfl⟩
    obtain ⟨w2, hw2⟩ : ∃ W, W = w1.alloc (.cells #[.int .i64 1048576, .int .i64 0, .map none, .bool true, .bool false, .int .i64 0] 54) := ⟨_, rfl⟩
    rw [← hw2] at HD0 ⊢
    have B2 := Lib.hid (show Below w1.heap.size w1 w2 by rw [hw2]; exact (Below.refl _ _).alloc (Nat.le_refl _) _)
    clear hw2 HNEW
    go_wp2_with fail
    refine (open_new HD0.out).mono ?_
    rintro e w3 ⟨B, Lb, L3, ev3, q3, rfl, so3, o3, f3⟩
    have hd0 := HD0.out
    have bs3 := base_new HD0.out f3
    have PL0 := Lib.hid (show Pl w1 w1.heap.size B Lb w1.heap.size 0 ss0 (newD 1048576) L3 [] ev3 q3 (.slice none 0 0) w3 from ⟨so3, live0 _, rfl, rfl, rfl, bs3, QR.nil _ _ _, fun g hg => (by cases hg), B2.out.trans (o3.below (fun g hg => hd0.foot_base hg) B2.out.size)⟩)
    clear so3 o3 f3 hd0 bs3 HD0
    go_wp2
    go_loopw [6, 7] (fun v i wr => ∃ (k : Nat) (s : SS) (d : Dk) (L : Lay) (gs : List (List ByteArray)) (ev q : Value), k ≤ l.length ∧ i = .int .i64 (k : Int) ∧ Pl w1 w1.heap.size B Lb w1.heap.size k s d L gs ev q v wr) (fun v i _ => l.length - (intOf i).toNat)
    case atStart => exact ⟨0, _, _, _, _, _, _, Nat.zero_le _, rfl, PL0.out⟩
    case round =>
      obtain ⟨k, s, d, L, gs, ev, q, hk, rfl, hPl⟩ := hrel
      have HP := Lib.hid hPl
      clear hPl
      have BR := Lib.hid (B1.out.trans (HP.out.bel.mono B1.out.size))
      obtain ⟨ra, rc, rfl, hrc, _, hrr⟩ := HP.out.row.form
      have HOF := Lib.hid (of_any wr ra rc gs.flatten hrr (by have := HP.out.lv.flat; omega) (fun y hy => by have := HP.out.lv.segs.recs y hy; omega))
      have HRR := Lib.hid hrr
      have hfn : gs.flatten.length ≤ k := HP.out.lv.flat
      have hfs : ∀ y ∈ gs.flatten, y.size ≤ 65535 := HP.out.lv.segs.recs
      have hof : ofR ss0 gs.flatten = some s := HP.out.lv.of
      have HFS := Lib.hid hfs
      have HOS := Lib.hid hof
      clear hrr hfs hof
      generalize hfl : gs.flatten = fl at *
      have HFL := Lib.hid hfl
      clear hfl
      by_cases hlt : k < l.length
      · obtain ⟨b, off, rfl, hbl, hcl⟩ := (HAC.out.below BR.out).at_ hlt
        have hok := HAC.out.ok l[k] (List.getElem_mem hlt)
        have hsm := HSM.out l[k] (List.getElem_mem hlt)
        have hn2 := hok.n.2
        have c0 := hcl 0 (by decide)
        have c1 := hcl 1 (by decide)
        have c2 := hcl 2 (by decide)
        simp only [Sa.cells, List.getElem?_cons_zero, List.getElem?_cons_succ] at c0 c1 c2
        generalize l[k].kind = ck at *
        generalize l[k].text = ct at *
        generalize l[k].n = cn at *
        clear hcl hok
        have i1 : (k : Int) < (l.length : Int) := by omega
        have i0' : (0 : Int) ≤ (k : Int) := by omega
        go_wp2_with fail
        refine HOF.out.mono ?_
        rintro e w6 ⟨b6, h6, _⟩
        obtain ⟨_, v6, rfl, vs6, _⟩ := h6 s HOS.out
        have hbl6 : b < w6.heap.size := Nat.lt_of_lt_of_le hbl b6.size
        obtain ⟨w7, hw7⟩ : ∃ W, W = w6.alloc (.cells #[.string s.room, .slice v6.a1 s.events.length v6.c1, .int .i64 (s.used : Int), .slice v6.a2 s.queue.length v6.c2] 33) := ⟨_, rfl⟩
        have b67 : Below w6.heap.size w6 w7 := by rw [hw7]; exact (Below.refl _ _).alloc (Nat.le_refl _) _
        have b7 := b6.trans (b67.mono b6.size)
        have B7 := Lib.hid (BR.out.trans (b7.mono BR.out.size))
        have HP7 := Lib.hid (HP.out.below b7)
        have VS7 := Lib.hid (vs6.below b67)
        have hR7 : Blk w7 w6.heap.size 33 [.string s.room, .slice v6.a1 s.events.length v6.c1, .int .i64 (s.used : Int), .slice v6.a2 s.queue.length v6.c2] := by rw [hw7]; exact Blk.new w6 _ _
        have d0 : w7.cell? ⟨b, off + k * 3, none⟩ = some (.int .i64 ck) := (b7.cell (p := ⟨b, off + k * 3, none⟩) hbl).trans c0
        have d1 : w7.cell? ⟨b, off + k * 3 + 1, none⟩ = some (.string ct) := (b7.cell (p := ⟨b, off + k * 3 + 1, none⟩) hbl).trans c1
        have d2 : w7.cell? ⟨b, off + k * 3 + 2, none⟩ = some (.int .i64 cn) := (b7.cell (p := ⟨b, off + k * 3 + 2, none⟩) hbl).trans c2
        have hbl7 : b < w7.heap.size := Nat.lt_of_lt_of_le hbl b7.size
        have hus := HP.out.so.st.used
        have hz6 := b6.size
        have hSo : ∀ g, SoF B Lb w1.heap.size d L ev q g → g < w6.heap.size := fun g hg => Nat.lt_of_lt_of_le (HP.out.so.lt hg) hz6
        have hRo : ∀ g, (Value.slice ra fl.length rc).ownBlock = some g → g < w6.heap.size := fun g hg => Nat.lt_of_lt_of_le (HP.out.row.lt hg).1 hz6
        have hRb : w1.heap.size ≤ w6.heap.size := Nat.le_trans HP.out.bel.size hz6
        have HSO := Lib.hid (And.intro hSo (And.intro hRo hRb))
        clear hSo hRo hRb hz6
        clear b6 h6 vs6 c0 c1 c2 HOF b67 b7
        unfold vsV
        go_wp2
        rw [← hw7]
        clear hw7
        obtain ⟨R, hR⟩ : ∃ R, R = w6.heap.size := ⟨_, rfl⟩
        rw [← hR] at hR7 HSO ⊢
        clear hR
        have hRl : R < w7.heap.size := hR7.lt
        have k0 : w7.cell? ⟨R, 0, none⟩ = some (.string s.room) := hR7.cell 0
        have k1 : w7.cell? ⟨R, 1, none⟩ = some (.slice v6.a1 s.events.length v6.c1) := hR7.cell 1
        have k2 : w7.cell? ⟨R, 2, none⟩ = some (.int .i64 (s.used : Int)) := hR7.cell 2
        have k3 : w7.cell? ⟨R, 3, none⟩ = some (.slice v6.a2 s.queue.length v6.c2) := hR7.cell 3
        have kk0 : w7.drew.cell? ⟨R, 0, none⟩ = some (.string s.room) := k0
        have kk1 : w7.drew.cell? ⟨R, 1, none⟩ = some (.slice v6.a1 s.events.length v6.c1) := k1
        have kk2 : w7.drew.cell? ⟨R, 2, none⟩ = some (.int .i64 (s.used : Int)) := k2
        have kk3 : w7.drew.cell? ⟨R, 3, none⟩ = some (.slice v6.a2 s.queue.length v6.c2) := k3
        have kd0 : w7.drew.cell? ⟨b, off + k * 3, none⟩ = some (.int .i64 ck) := d0
        have kd1 : w7.drew.cell? ⟨b, off + k * 3 + 1, none⟩ = some (.string ct) := d1
        have kd2 : w7.drew.cell? ⟨b, off + k * 3 + 2, none⟩ = some (.int .i64 cn) := d2
        have HDO := Lib.hid (fun W hW => does_at (w7 := w7) s v6 ck ct cn (by omega) hus VS7.out.n2 W hW)
        obtain ⟨er, rb, hdr⟩ : ∃ er rb, doesR s ck ct cn = (er, rb) := ⟨_, _, rfl⟩
        rw [hdr] at HDO
        have HDR := Lib.hid hdr
        have HR7 := Lib.hid hR7
        have bdr : Below w7.heap.size w7 w7.drew := (Below.refl _ _).drew
        clear hR7 hdr hus
        go_region_held3 (fun w' => w'.cell? ⟨R, 0, none⟩ = some (.string s.room) ∧ w'.cell? ⟨R, 1, none⟩ = some (.slice v6.a1 s.events.length v6.c1) ∧ w'.cell? ⟨R, 2, none⟩ = some (.int .i64 (s.used : Int)) ∧ w'.cell? ⟨R, 3, none⟩ = some (.slice v6.a2 s.queue.length v6.c2) ∧ w'.cell? ⟨b, off + k * 3, none⟩ = some (.int .i64 ck) ∧ w'.cell? ⟨b, off + k * 3 + 1, none⟩ = some (.string ct) ∧ w'.cell? ⟨b, off + k * 3 + 2, none⟩ = some (.int .i64 cn))
          (first | with_reducible exact ⟨(b8.cell (p := ⟨R, 0, none⟩) hRl).trans k0, (b8.cell (p := ⟨R, 1, none⟩) hRl).trans k1, (b8.cell (p := ⟨R, 2, none⟩) hRl).trans k2, (b8.cell (p := ⟨R, 3, none⟩) hRl).trans k3, (b8.cell (p := ⟨b, off + k * 3, none⟩) hbl7).trans d0, (b8.cell (p := ⟨b, off + k * 3 + 1, none⟩) hbl7).trans d1, (b8.cell (p := ⟨b, off + k * 3 + 2, none⟩) hbl7).trans d2⟩ | with_reducible exact (b8.cell (p := ⟨R, 0, none⟩) hRl).trans k0 | with_reducible exact (b8.cell (p := ⟨R, 1, none⟩) hRl).trans k1 | with_reducible exact (b8.cell (p := ⟨R, 2, none⟩) hRl).trans k2 | with_reducible exact (b8.cell (p := ⟨R, 3, none⟩) hRl).trans k3 | with_reducible exact (b8.cell (p := ⟨b, off + k * 3, none⟩) hbl7).trans d0 | with_reducible exact (b8.cell (p := ⟨b, off + k * 3 + 1, none⟩) hbl7).trans d1 | with_reducible exact (b8.cell (p := ⟨b, off + k * 3 + 2, none⟩) hbl7).trans d2 | with_reducible exact ⟨kk0, kk1, kk2, kk3, kd0, kd1, kd2⟩ | with_reducible exact kk0 | with_reducible exact kk1 | with_reducible exact kk2 | with_reducible exact kk3 | with_reducible exact kd0 | with_reducible exact kd1 | with_reducible exact kd2 | fail)
          (first
            | (go_at_call 12; refine (HDO.out _ (by first | exact bdr)).mono ?_; rintro e w8 ⟨rfl, b8⟩))
        have HR8 := Lib.hid (HR7.out.below b8 hRl)
        have HP8 := Lib.hid (HP7.out.below b8)
        have B8 := Lib.hid (B7.out.trans (b8.mono B7.out.size))
        have d0' := (b8.cell (p := ⟨b, off + k * 3, none⟩) hbl7).trans d0
        have d1' := (b8.cell (p := ⟨b, off + k * 3 + 1, none⟩) hbl7).trans d1
        have d2' := (b8.cell (p := ⟨b, off + k * 3 + 2, none⟩) hbl7).trans d2
        have HDO2 := Lib.hid (do_so HP8.out.so (HP8.out.lv.ready (by omega)) ck ct cn hn2 (fun he => by
          have h1 := HP8.out.lv.used
          have h2 := HP8.out.room
          have h3 := rec_small he hsm.1
          omega))
        clear b8 d0 d1 d2 k0 k1 k2 k3 kk0 kk1 kk2 kk3 kd0 kd1 kd2 bdr HDO HP7 HR7 VS7 B7 HP
        go_wp2_with fail
        refine HDO2.out.mono ?_
        intro e w9 hA
        clear HDO2 d0' d1' d2'
        by_cases he : er = 0
        · subst he
          obtain ⟨d', rfl, di9, lv9, on9, ar9, rm9⟩ := act_calm hA HP8.out.so HP8.out.lv (by omega) HP8.out.on HP8.out.arm (by rw [HDR.out])
          rw [HDR.out] at di9 lv9
          have hrs : rb.size ≤ 1001 := by have := rec_small (s := s) (kind := ck) (t := ct) (n := cn) (by rw [HDR.out]) hsm.1; rw [HDR.out] at this; exact this
          have H9 := Lib.hid (And.intro di9 (And.intro lv9 (And.intro on9 (And.intro ar9 rm9))))
          obtain ⟨q9, z9, r9, y9⟩ := HP8.out.rowDid di9
          rw [HFL.out] at q9
          have hR8l := HR8.out.lt
          have hR9 := r9 R _ _ (fun hs => Nat.lt_irrefl _ (HSO.out.1 R hs)) HR8.out
          have QA := Lib.hid (q9.below (w' := w9.alloc (.cells #[.string rb] 9)) ((Below.refl _ _).alloc (Nat.le_refl _) _) (Nat.le_refl _))
          have HN1 := Lib.hid (one_new w9 9 rb)
          have HB2 := Lib.hid (show w1.heap.size ≤ (w9.alloc (.cells #[.string rb] 9)).heap.size by simp; omega)
          have HL2 := Lib.hid (show fl.length ≤ 1000000000 by omega)
          have HR9 := Lib.hid hR9
          clear hA di9 lv9 on9 ar9 rm9 q9 z9 r9 hR9
          go_wp2_with (at_builtin; refine wpList_append_q _ rfl _ _ 31 rfl w1.heap.size 9 i0 Tryd.underlying31 HI.out HZ0.out HZ1.out HZ2.out _ fl rfl QA.out ⟨w9.heap.size, 0, none⟩ 1 rb rfl HN1.out HL2.out HB2.out ?_)
          intro v2 wt q2 g2 a2
          obtain ⟨a9, cap9, rfl, _, _, hrt⟩ := q2.form
          obtain ⟨di9, lv9, on9, ar9, rm9⟩ := H9.out
          obtain ⟨L2, ev2, q22, hp2, hs2⟩ := HP8.out.act di9 lv9 hrs on9 ar9 rm9 (by rw [HFL.out]; exact q2) g2 a2
          have hRt : Blk wt R _ _ := (HR9.out.alloc _).grown g2 (fun e => Nat.lt_irrefl _ (HSO.out.2.1 R e.symm))
          have hfl2 : (addL gs rb).flatten = fl ++ [rb] := by rw [addL_flat, HFL.out]
          have hst : ∀ g, SoF B Lb w1.heap.size d' L2 ev2 q22 g → g ≠ R := fun g hg e => by
            rcases hs2 g hg with h | h
            · have := HSO.out.1 g h; omega
            · omega
          have hrot : (Value.slice a9 (fl ++ [rb]).length cap9).ownBlock ≠ some R := fun e => by
            rcases a2 R e with h | h
            · have := HSO.out.2.1 R h; omega
            · omega
          clear QA HN1 HB2 HL2 HR9 H9 g2 a2 q2 di9 lv9 on9 ar9 rm9 hs2 HDR hrs
          generalize fl ++ [rb] = flt at *
          generalize afterR s ck ct cn = st at *
          generalize addL gs rb = gst at *
          have hln : flt.length ≤ k + 1 := by have := hp2.lv.flat; rw [hfl2] at this; exact this
          have hofl : ofR ss0 flt = some st := by have := hp2.lv.of; rw [hfl2] at this; exact this
          have HOF := Lib.hid (of_any wt a9 cap9 flt hrt (by omega) (fun y hy => by have := hp2.lv.segs.recs y (by rw [hfl2]; exact hy); omega))
          have HPT := Lib.hid hp2
          have HRT := Lib.hid hRt
          have HOL := Lib.hid hofl
          have HST := Lib.hid (And.intro hst (And.intro hrot hfl2))
          clear hp2 hRt hrt hofl hst hrot hfl2
          go_wp2_with fail
          refine HOF.out.mono ?_
          rintro e w10 ⟨b10, h10, _⟩
          obtain ⟨_, v10, rfl, vs10, va10, vb10⟩ := h10 st HOL.out
          have HP10 := Lib.hid (HPT.out.below b10)
          have hR10 := HRT.out.below b10 HRT.out.lt
          have x0 := hR10.cell 0
          have x1 := hR10.cell 1
          have x2 := hR10.cell 2
          have x3 := hR10.cell 3
          have y0 := hR10.frozen 0
          have y1 := hR10.frozen 1
          have y2 := hR10.frozen 2
          have y3 := hR10.frozen 3
          simp only [List.getElem?_cons_zero, List.getElem?_cons_succ] at x0 x1 x2 x3
          have HP11 := Lib.hid (HP10.out.set4 (R := R) HSO.out.2.2 HST.out.1 HST.out.2.1 (.string st.room) (.slice v10.a1 st.events.length v10.c1) (.int .i64 (st.used : Int)) (.slice v10.a2 st.queue.length v10.c2))
          have HR10 := Lib.hid hR10
          have hRw : R < wt.heap.size := HRT.out.lt
          have HV11 := Lib.hid (vs10.set4 (R := R) (fun e => by have := va10 R e; omega) (fun e => by have := vb10 R e; omega) (.string st.room) (.slice v10.a1 st.events.length v10.c1) (.int .i64 (st.used : Int)) (.slice v10.a2 st.queue.length v10.c2))
          have HB10 := Lib.hid b10
          clear b10 h10 hR10 vs10 va10 vb10 HPT HRT HOF HOL
          unfold vsV
          go_wp2
          obtain ⟨w11, hw11⟩ : ∃ W, W = ((((w10.setCell ⟨R, 0, none⟩ (.string st.room)).setCell ⟨R, 1, none⟩ (.slice v10.a1 st.events.length v10.c1)).setCell ⟨R, 2, none⟩ (.int .i64 (st.used : Int))).setCell ⟨R, 3, none⟩ (.slice v10.a2 st.queue.length v10.c2)) := ⟨_, rfl⟩
          have hR11 : Blk w11 R 33 [.string st.room, .slice v10.a1 st.events.length v10.c1, .int .i64 (st.used : Int), .slice v10.a2 st.queue.length v10.c2] := by rw [hw11]; exact (((HR10.out.set 0 _).set 1 _).set 2 _).set 3 _
          rw [← hw11] at HP11 HV11 ⊢
          clear hw11 x0 x1 x2 x3 y0 y1 y2 y3 HR10 HP10 HB10
          have hRl1 : R < w11.heap.size := hR11.lt
          have k0 : w11.cell? ⟨R, 0, none⟩ = some (.string st.room) := hR11.cell 0
          have k1 : w11.cell? ⟨R, 1, none⟩ = some (.slice v10.a1 st.events.length v10.c1) := hR11.cell 1
          have k2 : w11.cell? ⟨R, 2, none⟩ = some (.int .i64 (st.used : Int)) := hR11.cell 2
          have k3 : w11.cell? ⟨R, 3, none⟩ = some (.slice v10.a2 st.queue.length v10.c2) := hR11.cell 3
          have kk0 : w11.drew.cell? ⟨R, 0, none⟩ = some (.string st.room) := k0
          have kk1 : w11.drew.cell? ⟨R, 1, none⟩ = some (.slice v10.a1 st.events.length v10.c1) := k1
          have kk2 : w11.drew.cell? ⟨R, 2, none⟩ = some (.int .i64 (st.used : Int)) := k2
          have kk3 : w11.drew.cell? ⟨R, 3, none⟩ = some (.slice v10.a2 st.queue.length v10.c2) := k3
          have bdr : Below w11.heap.size w11 w11.drew := (Below.refl _ _).drew
          have hsz : SzS st 1000000 := HP11.out.lv.sz.up (by omega)
          have HSTA := Lib.hid (state_at HP11.out.so.st hsz)
          have HASA := Lib.hid (fun Wq v hv hq => as_at (w7 := w11) (s := st) Wq v hv hq)
          have HSMA := Lib.hid (fun Wq v hv hq => same_at (w7 := w11) hsz hsz HV11.out Wq v hv hq)
          rw [sameB_self] at HSMA
          clear hR11 hsz
          go_region_held3 (fun w' => w'.cell? ⟨R, 0, none⟩ = some (.string st.room) ∧ w'.cell? ⟨R, 1, none⟩ = some (.slice v10.a1 st.events.length v10.c1) ∧ w'.cell? ⟨R, 2, none⟩ = some (.int .i64 (st.used : Int)) ∧ w'.cell? ⟨R, 3, none⟩ = some (.slice v10.a2 st.queue.length v10.c2))
            (first | with_reducible exact ⟨(b14.cell (p := ⟨R, 0, none⟩) hRl1).trans k0, (b14.cell (p := ⟨R, 1, none⟩) hRl1).trans k1, (b14.cell (p := ⟨R, 2, none⟩) hRl1).trans k2, (b14.cell (p := ⟨R, 3, none⟩) hRl1).trans k3⟩ | with_reducible exact (b14.cell (p := ⟨R, 0, none⟩) hRl1).trans k0 | with_reducible exact (b14.cell (p := ⟨R, 1, none⟩) hRl1).trans k1 | with_reducible exact (b14.cell (p := ⟨R, 2, none⟩) hRl1).trans k2 | with_reducible exact (b14.cell (p := ⟨R, 3, none⟩) hRl1).trans k3 | with_reducible exact ⟨(b13.cell (p := ⟨R, 0, none⟩) hRl1).trans k0, (b13.cell (p := ⟨R, 1, none⟩) hRl1).trans k1, (b13.cell (p := ⟨R, 2, none⟩) hRl1).trans k2, (b13.cell (p := ⟨R, 3, none⟩) hRl1).trans k3⟩ | with_reducible exact (b13.cell (p := ⟨R, 0, none⟩) hRl1).trans k0 | with_reducible exact (b13.cell (p := ⟨R, 1, none⟩) hRl1).trans k1 | with_reducible exact (b13.cell (p := ⟨R, 2, none⟩) hRl1).trans k2 | with_reducible exact (b13.cell (p := ⟨R, 3, none⟩) hRl1).trans k3 | with_reducible exact ⟨(b12.cell (p := ⟨R, 0, none⟩) hRl1).trans k0, (b12.cell (p := ⟨R, 1, none⟩) hRl1).trans k1, (b12.cell (p := ⟨R, 2, none⟩) hRl1).trans k2, (b12.cell (p := ⟨R, 3, none⟩) hRl1).trans k3⟩ | with_reducible exact (b12.cell (p := ⟨R, 0, none⟩) hRl1).trans k0 | with_reducible exact (b12.cell (p := ⟨R, 1, none⟩) hRl1).trans k1 | with_reducible exact (b12.cell (p := ⟨R, 2, none⟩) hRl1).trans k2 | with_reducible exact (b12.cell (p := ⟨R, 3, none⟩) hRl1).trans k3 | exact ⟨kk0, kk1, kk2, kk3⟩ | with_reducible exact kk0 | with_reducible exact kk1 | with_reducible exact kk2 | with_reducible exact kk3 | fail)
            (first
              | (go_at_call 16; refine (HSTA.out _ (by first | exact bdr)).mono ?_; rintro e w12 ⟨v12, rfl, vs12, b12⟩)
              | (go_at_call 15; refine (HASA.out _ v12 vs12 b12).mono ?_; rintro e w13 ⟨rfl, vs13, b13⟩)
              | (go_at_call 14; refine (HSMA.out _ v12 vs13 b13).mono ?_; rintro e w14 ⟨rfl, b14⟩))
          have HP14 := Lib.hid (HP11.out.below b14)
          clear vs12 vs13 b12 b13 b14 k0 k1 k2 k3 kk0 kk1 kk2 kk3 bdr HSTA HASA HSMA HV11 HP11
          go_wp2
          go_roundw
          case rel =>
            have hp := HP14.out
            exact ⟨k + 1, st, d', L2, gst, ev2, q22, hlt, by go_num, hp⟩
          case measure => simp [intOf]; omega
        · obtain ⟨rfl, b9⟩ := hA.1 (by rw [HDR.out]; exact he)
          rw [HDR.out]
          have hp2 := (HP8.out.below b9).up
          have hRt := HR8.out.below b9 HR8.out.lt
          have hst : ∀ g, SoF B Lb w1.heap.size d L ev q g → g ≠ R := fun g hg => Nat.ne_of_lt (HSO.out.1 g hg)
          have hrot : (Value.slice ra fl.length rc).ownBlock ≠ some R := fun e => Nat.lt_irrefl _ (HSO.out.2.1 R e)
          have hfl2 := HFL.out
          obtain ⟨wt, hwt⟩ : ∃ W, W = w9 := ⟨_, rfl⟩
          obtain ⟨_, _, ht0, _, _, hrt⟩ := hp2.row.form
          rw [HFL.out] at ht0 hrt
          cases ht0
          rw [← hwt] at hp2 hRt hrt ⊢
          clear hwt hA b9 HDR
          have hln : fl.length ≤ k + 1 := by have := hp2.lv.flat; rw [hfl2] at this; exact this
          have hofl : ofR ss0 fl = some s := by have := hp2.lv.of; rw [hfl2] at this; exact this
          have HOF := Lib.hid (of_any wt ra rc fl hrt (by omega) (fun y hy => by have := hp2.lv.segs.recs y (by rw [hfl2]; exact hy); omega))
          have HPT := Lib.hid hp2
          have HRT := Lib.hid hRt
          have HOL := Lib.hid hofl
          have HST := Lib.hid (And.intro hst (And.intro hrot hfl2))
          clear hp2 hRt hrt hofl hst hrot hfl2
          go_wp2_with fail
          refine HOF.out.mono ?_
          rintro e w10 ⟨b10, h10, _⟩
          obtain ⟨_, v10, rfl, vs10, va10, vb10⟩ := h10 s HOL.out
          have HP10 := Lib.hid (HPT.out.below b10)
          have hR10 := HRT.out.below b10 HRT.out.lt
          have x0 := hR10.cell 0
          have x1 := hR10.cell 1
          have x2 := hR10.cell 2
          have x3 := hR10.cell 3
          have y0 := hR10.frozen 0
          have y1 := hR10.frozen 1
          have y2 := hR10.frozen 2
          have y3 := hR10.frozen 3
          simp only [List.getElem?_cons_zero, List.getElem?_cons_succ] at x0 x1 x2 x3
          have HP11 := Lib.hid (HP10.out.set4 (R := R) HSO.out.2.2 HST.out.1 HST.out.2.1 (.string s.room) (.slice v10.a1 s.events.length v10.c1) (.int .i64 (s.used : Int)) (.slice v10.a2 s.queue.length v10.c2))
          have HR10 := Lib.hid hR10
          have hRw : R < wt.heap.size := HRT.out.lt
          have HV11 := Lib.hid (vs10.set4 (R := R) (fun e => by have := va10 R e; omega) (fun e => by have := vb10 R e; omega) (.string s.room) (.slice v10.a1 s.events.length v10.c1) (.int .i64 (s.used : Int)) (.slice v10.a2 s.queue.length v10.c2))
          have HB10 := Lib.hid b10
          clear b10 h10 hR10 vs10 va10 vb10 HPT HRT HOF HOL
          unfold vsV
          go_wp2
          obtain ⟨w11, hw11⟩ : ∃ W, W = ((((w10.setCell ⟨R, 0, none⟩ (.string s.room)).setCell ⟨R, 1, none⟩ (.slice v10.a1 s.events.length v10.c1)).setCell ⟨R, 2, none⟩ (.int .i64 (s.used : Int))).setCell ⟨R, 3, none⟩ (.slice v10.a2 s.queue.length v10.c2)) := ⟨_, rfl⟩
          have hR11 : Blk w11 R 33 [.string s.room, .slice v10.a1 s.events.length v10.c1, .int .i64 (s.used : Int), .slice v10.a2 s.queue.length v10.c2] := by rw [hw11]; exact (((HR10.out.set 0 _).set 1 _).set 2 _).set 3 _
          rw [← hw11] at HP11 HV11 ⊢
          clear hw11 x0 x1 x2 x3 y0 y1 y2 y3 HR10 HP10 HB10
          have hRl1 : R < w11.heap.size := hR11.lt
          have k0 : w11.cell? ⟨R, 0, none⟩ = some (.string s.room) := hR11.cell 0
          have k1 : w11.cell? ⟨R, 1, none⟩ = some (.slice v10.a1 s.events.length v10.c1) := hR11.cell 1
          have k2 : w11.cell? ⟨R, 2, none⟩ = some (.int .i64 (s.used : Int)) := hR11.cell 2
          have k3 : w11.cell? ⟨R, 3, none⟩ = some (.slice v10.a2 s.queue.length v10.c2) := hR11.cell 3
          have kk0 : w11.drew.cell? ⟨R, 0, none⟩ = some (.string s.room) := k0
          have kk1 : w11.drew.cell? ⟨R, 1, none⟩ = some (.slice v10.a1 s.events.length v10.c1) := k1
          have kk2 : w11.drew.cell? ⟨R, 2, none⟩ = some (.int .i64 (s.used : Int)) := k2
          have kk3 : w11.drew.cell? ⟨R, 3, none⟩ = some (.slice v10.a2 s.queue.length v10.c2) := k3
          have bdr : Below w11.heap.size w11 w11.drew := (Below.refl _ _).drew
          have hsz : SzS s 1000000 := HP11.out.lv.sz.up (by omega)
          have HSTA := Lib.hid (state_at HP11.out.so.st hsz)
          have HASA := Lib.hid (fun Wq v hv hq => as_at (w7 := w11) (s := s) Wq v hv hq)
          have HSMA := Lib.hid (fun Wq v hv hq => same_at (w7 := w11) hsz hsz HV11.out Wq v hv hq)
          rw [sameB_self] at HSMA
          clear hR11 hsz
          go_region_held3 (fun w' => w'.cell? ⟨R, 0, none⟩ = some (.string s.room) ∧ w'.cell? ⟨R, 1, none⟩ = some (.slice v10.a1 s.events.length v10.c1) ∧ w'.cell? ⟨R, 2, none⟩ = some (.int .i64 (s.used : Int)) ∧ w'.cell? ⟨R, 3, none⟩ = some (.slice v10.a2 s.queue.length v10.c2))
            (first | with_reducible exact ⟨(b14.cell (p := ⟨R, 0, none⟩) hRl1).trans k0, (b14.cell (p := ⟨R, 1, none⟩) hRl1).trans k1, (b14.cell (p := ⟨R, 2, none⟩) hRl1).trans k2, (b14.cell (p := ⟨R, 3, none⟩) hRl1).trans k3⟩ | with_reducible exact (b14.cell (p := ⟨R, 0, none⟩) hRl1).trans k0 | with_reducible exact (b14.cell (p := ⟨R, 1, none⟩) hRl1).trans k1 | with_reducible exact (b14.cell (p := ⟨R, 2, none⟩) hRl1).trans k2 | with_reducible exact (b14.cell (p := ⟨R, 3, none⟩) hRl1).trans k3 | with_reducible exact ⟨(b13.cell (p := ⟨R, 0, none⟩) hRl1).trans k0, (b13.cell (p := ⟨R, 1, none⟩) hRl1).trans k1, (b13.cell (p := ⟨R, 2, none⟩) hRl1).trans k2, (b13.cell (p := ⟨R, 3, none⟩) hRl1).trans k3⟩ | with_reducible exact (b13.cell (p := ⟨R, 0, none⟩) hRl1).trans k0 | with_reducible exact (b13.cell (p := ⟨R, 1, none⟩) hRl1).trans k1 | with_reducible exact (b13.cell (p := ⟨R, 2, none⟩) hRl1).trans k2 | with_reducible exact (b13.cell (p := ⟨R, 3, none⟩) hRl1).trans k3 | with_reducible exact ⟨(b12.cell (p := ⟨R, 0, none⟩) hRl1).trans k0, (b12.cell (p := ⟨R, 1, none⟩) hRl1).trans k1, (b12.cell (p := ⟨R, 2, none⟩) hRl1).trans k2, (b12.cell (p := ⟨R, 3, none⟩) hRl1).trans k3⟩ | with_reducible exact (b12.cell (p := ⟨R, 0, none⟩) hRl1).trans k0 | with_reducible exact (b12.cell (p := ⟨R, 1, none⟩) hRl1).trans k1 | with_reducible exact (b12.cell (p := ⟨R, 2, none⟩) hRl1).trans k2 | with_reducible exact (b12.cell (p := ⟨R, 3, none⟩) hRl1).trans k3 | exact ⟨kk0, kk1, kk2, kk3⟩ | with_reducible exact kk0 | with_reducible exact kk1 | with_reducible exact kk2 | with_reducible exact kk3 | fail)
            (first
              | (go_at_call 16; refine (HSTA.out _ (by first | exact bdr)).mono ?_; rintro e w12 ⟨v12, rfl, vs12, b12⟩)
              | (go_at_call 15; refine (HASA.out _ v12 vs12 b12).mono ?_; rintro e w13 ⟨rfl, vs13, b13⟩)
              | (go_at_call 14; refine (HSMA.out _ v12 vs13 b13).mono ?_; rintro e w14 ⟨rfl, b14⟩))
          have HP14 := Lib.hid (HP11.out.below b14)
          clear vs12 vs13 b12 b13 b14 k0 k1 k2 k3 kk0 kk1 kk2 kk3 bdr HSTA HASA HSMA HV11 HP11
          go_wp2
          go_roundw
          case rel =>
            have hp := HP14.out
            exact ⟨k + 1, s, d, L, gs, ev, q, hlt, by go_num, hp⟩
          case measure => simp [intOf]; omega
      · obtain rfl : k = l.length := by omega
        go_wp2_with fail
        refine HOF.out.mono ?_
        rintro e w6 ⟨b6, h6, _⟩
        obtain ⟨_, v6, rfl, vs6, va6, vb6⟩ := h6 s HOS.out
        have hz6 := b6.size
        have hSo : ∀ g, Foot w1.heap.size d.files L g → g < wr.heap.size := fun g hg => HP.out.so.lt (.inr (.inr hg))
        obtain ⟨w7, hw7⟩ : ∃ W, W = w6.alloc (.cells #[.string s.room, .slice v6.a1 s.events.length v6.c1, .int .i64 (s.used : Int), .slice v6.a2 s.queue.length v6.c2] 33) := ⟨_, rfl⟩
        have b67 : Below w6.heap.size w6 w7 := by rw [hw7]; exact (Below.refl _ _).alloc (Nat.le_refl _) _
        have hz7 := b67.size
        have b7 := b6.trans (b67.mono b6.size)
        have HP7 := Lib.hid (HP.out.below b7)
        have HV7 := Lib.hid (vs6.below b67)
        have HR7 : Blk w7 w6.heap.size 33 [.string s.room, .slice v6.a1 s.events.length v6.c1, .int .i64 (s.used : Int), .slice v6.a2 s.queue.length v6.c2] := by rw [hw7]; exact Blk.new w6 _ _
        have HR7 := Lib.hid HR7
        obtain ⟨R, hR⟩ : ∃ R, R = w6.heap.size := ⟨_, rfl⟩
        have hRw : wr.heap.size ≤ R := by omega
        have HSO := Lib.hid (And.intro hSo (And.intro hRw (And.intro va6 vb6)))
        clear b6 h6 vs6 va6 vb6 b67 b7 hz6 hz7 hSo HOF HP
        unfold vsV
        go_wp2_with fail
        rw [← hw7]
        rw [← hR] at HR7 ⊢
        clear hw7 hR
        refine (open_again HP7.out.so.dk HP7.out.lv (by omega) HP7.out.on HP7.out.arm).mono ?_
        rintro e w8 ⟨B8, Lb8, L8, ev8, q8, rfl, so8, o8⟩
        have hd7 := HP7.out.so.dk
        have hbl := HP7.out.bel
        have B8 := Lib.hid (B1.out.trans ((hbl.trans (o8.below (fun g hg => hd7.foot_base hg) hbl.size)).mono B1.out.size))
        have hR8 : Blk w8 R _ _ := (o8.block R HR7.out.lt (fun hf => by have := HSO.out.1 R hf; omega)).trans HR7.out
        have HV8 := Lib.hid (HV7.out.keep (w' := w8) (fun g hl hg => o8.block g hl (fun hf => by have := HSO.out.1 g hf; have := HSO.out.2.2.1 g hg; omega)) (fun g hl hg => o8.block g hl (fun hf => by have := HSO.out.1 g hf; have := HSO.out.2.2.2 g hg; omega)))
        have hsz : SzS s 1000000 := HP7.out.lv.sz.up (by omega)
        have HSTA := Lib.hid (state_at so8.st hsz)
        have HASA := Lib.hid (fun Wq v hv hq => as_at (w7 := w8) (s := s) Wq v hv hq)
        have HSMA := Lib.hid (fun Wq v hv hq => same_at (w7 := w8) hsz hsz HV8.out Wq v hv hq)
        rw [sameB_self] at HSMA
        have hRl1 : R < w8.heap.size := hR8.lt
        have k0 : w8.cell? ⟨R, 0, none⟩ = some (.string s.room) := hR8.cell 0
        have k1 : w8.cell? ⟨R, 1, none⟩ = some (.slice v6.a1 s.events.length v6.c1) := hR8.cell 1
        have k2 : w8.cell? ⟨R, 2, none⟩ = some (.int .i64 (s.used : Int)) := hR8.cell 2
        have k3 : w8.cell? ⟨R, 3, none⟩ = some (.slice v6.a2 s.queue.length v6.c2) := hR8.cell 3
        have kk0 : w8.drew.cell? ⟨R, 0, none⟩ = some (.string s.room) := k0
        have kk1 : w8.drew.cell? ⟨R, 1, none⟩ = some (.slice v6.a1 s.events.length v6.c1) := k1
        have kk2 : w8.drew.cell? ⟨R, 2, none⟩ = some (.int .i64 (s.used : Int)) := k2
        have kk3 : w8.drew.cell? ⟨R, 3, none⟩ = some (.slice v6.a2 s.queue.length v6.c2) := k3
        have bdr : Below w8.heap.size w8 w8.drew := (Below.refl _ _).drew
        clear hd7 hbl hR8 hsz so8 o8 HV7 HV8 HR7 HSO HP7
        go_wp2
        go_region_held3 (fun w' => w'.cell? ⟨R, 0, none⟩ = some (.string s.room) ∧ w'.cell? ⟨R, 1, none⟩ = some (.slice v6.a1 s.events.length v6.c1) ∧ w'.cell? ⟨R, 2, none⟩ = some (.int .i64 (s.used : Int)) ∧ w'.cell? ⟨R, 3, none⟩ = some (.slice v6.a2 s.queue.length v6.c2))
          (first | with_reducible exact ⟨(b14.cell (p := ⟨R, 0, none⟩) hRl1).trans k0, (b14.cell (p := ⟨R, 1, none⟩) hRl1).trans k1, (b14.cell (p := ⟨R, 2, none⟩) hRl1).trans k2, (b14.cell (p := ⟨R, 3, none⟩) hRl1).trans k3⟩ | with_reducible exact (b14.cell (p := ⟨R, 0, none⟩) hRl1).trans k0 | with_reducible exact (b14.cell (p := ⟨R, 1, none⟩) hRl1).trans k1 | with_reducible exact (b14.cell (p := ⟨R, 2, none⟩) hRl1).trans k2 | with_reducible exact (b14.cell (p := ⟨R, 3, none⟩) hRl1).trans k3 | with_reducible exact ⟨(b13.cell (p := ⟨R, 0, none⟩) hRl1).trans k0, (b13.cell (p := ⟨R, 1, none⟩) hRl1).trans k1, (b13.cell (p := ⟨R, 2, none⟩) hRl1).trans k2, (b13.cell (p := ⟨R, 3, none⟩) hRl1).trans k3⟩ | with_reducible exact (b13.cell (p := ⟨R, 0, none⟩) hRl1).trans k0 | with_reducible exact (b13.cell (p := ⟨R, 1, none⟩) hRl1).trans k1 | with_reducible exact (b13.cell (p := ⟨R, 2, none⟩) hRl1).trans k2 | with_reducible exact (b13.cell (p := ⟨R, 3, none⟩) hRl1).trans k3 | with_reducible exact ⟨(b12.cell (p := ⟨R, 0, none⟩) hRl1).trans k0, (b12.cell (p := ⟨R, 1, none⟩) hRl1).trans k1, (b12.cell (p := ⟨R, 2, none⟩) hRl1).trans k2, (b12.cell (p := ⟨R, 3, none⟩) hRl1).trans k3⟩ | with_reducible exact (b12.cell (p := ⟨R, 0, none⟩) hRl1).trans k0 | with_reducible exact (b12.cell (p := ⟨R, 1, none⟩) hRl1).trans k1 | with_reducible exact (b12.cell (p := ⟨R, 2, none⟩) hRl1).trans k2 | with_reducible exact (b12.cell (p := ⟨R, 3, none⟩) hRl1).trans k3 | exact ⟨kk0, kk1, kk2, kk3⟩ | with_reducible exact kk0 | with_reducible exact kk1 | with_reducible exact kk2 | with_reducible exact kk3 | fail)
          (first
            | (go_at_call 16; refine (HSTA.out _ (by first | exact bdr)).mono ?_; rintro e w12 ⟨v12, rfl, vs12, b12⟩)
            | (go_at_call 15; refine (HASA.out _ v12 vs12 b12).mono ?_; rintro e w13 ⟨rfl, vs13, b13⟩)
            | (go_at_call 14; refine (HSMA.out _ v12 vs13 b13).mono ?_; rintro e w14 ⟨rfl, b14⟩))
        have B14 := Lib.hid (B8.out.trans (b14.mono B8.out.size))
        clear vs12 vs13 b12 b13 b14 k0 k1 k2 k3 kk0 kk1 kk2 kk3 bdr HSTA HASA HSMA
        go_wp2
        go_ret
        exact ⟨rfl, B14.out⟩
  · rw [hg] at HG
    clear hg hA
    go_enter Tryd.func3, Tryd.ntmps3
    go_wp2_with fail
    refine HG.out.mono ?_
    rintro e w0 ⟨rfl, rfl⟩
    go_wp2_with fail
    refine (awake11 _).mono ?_
    rintro e w1 ⟨rfl, b1⟩
    have B1 := Lib.hid b1
    clear b1
    go_wp2
    go_ret
    exact ⟨rfl, B1.out⟩

theorem own : ownKnob Tryd.prog.godebug = none := by kernel_rfl
theorem laidOut : laidOutB Tryd.prog = true := by kernel_rfl

set_option maxRecDepth 100000 in
theorem contract (H : Type) (enc : TypeId × Value → H) (W : World) (base : Nat) (args : Array Value) (ds gs : List (DataW H)) (before : List MemPlace)
    (hval : ∀ (j : Nat) t v, Tryd.f3.params[j]? = some t → args[j]? = some v → Value.okWide Tryd.prog W .any base t v)
    (hW : DataW.Whole enc Tryd.prog Tryd.f3.params.toList Rows.storePlaysSpec.vars false W args.toList ds gs before) (hL : laidMetH Tryd.prog Rows.storePlaysRow.laid W) :
    Calls Tryd.prog 3 args W fun e W' => ∃ v, e = .returned v ∧ Rows.storePlaysSpec.post enc Tryd.prog Tryd.f3 false true false false W args v W' := by
  have hW' := hW
  obtain ⟨p, q, hA0, hV, rfl, hfz, hnd⟩ := hW
  have hA : DataW.TrodAll enc Tryd.prog W 0 (fun _ => true) true Tryd.f3.params.toList args.toList ds p := hA0
  rw [Tryd.params3] at hA hval
  obtain ⟨v0, vs0, d0, ds0, p0, q0, hargs, rfl, rfl, h0, r0⟩ := trodAll_cons hA
  obtain ⟨rfl, rfl, rfl⟩ := trodAll_nil r0
  obtain rfl : args = #[v0] := by cases args; simp_all
  obtain ⟨rfl, rfl⟩ := trodVars_none hV
  obtain ⟨x0, len0, cap0, rfl⟩ := okWide_slice Tryd.underlying22 (hval 0 22 v0 rfl rfl)
  have k0 := h0
  have lt0 : ∀ x ∈ p0, x.block < W.heap.size := by obtain ⟨m, hm⟩ := k0; exact DataW.trod_lt m _ _ _ hm
  obtain ⟨l0, rfl, i0⟩ : ∃ l : List Sa, len0 = l.length ∧ SactsAt W x0 l := by
    obtain ⟨fuel, hf⟩ := h0
    exact sacts_of (show DataW.trod enc Tryd.prog W 0 (fun _ => true) true fuel 22 [.slice x0 len0 cap0] = some _ from hf)
  clear hA0
  refine (walk x0 cap0 l0 W i0).mono fun e W' ⟨he, bel⟩ => ?_
  subst he
  exact ⟨_, rfl, _, _, _, [], _, [], hW', trodAll_mk1 (shut_bool Tryd.underlying4 _), (trodAll_cons_mk (Below.trod laidOut (by kernel_rfl) (of_decide_eq_true (by kernel_rfl)) k0 bel lt0) trodAll_mk0), rfl, bel.frame _, fun h => by cases h⟩

theorem laid_met (os : Os) : laidMet Tryd.prog Rows.storePlaysRow.laid (({ World.holding Tryd.prog os ⟨#[], #[], []⟩ with heap := (((World.holding Tryd.prog os ⟨#[], #[], []⟩).heap.modify 0 fun | .cells _ t frozen => .cells #[.int .u64 1, .int .u64 10, .int .u64 100, .int .u64 1000, .int .u64 10000, .int .u64 100000, .int .u64 1000000, .int .u64 10000000, .int .u64 100000000, .int .u64 1000000000, .int .u64 10000000000, .int .u64 100000000000, .int .u64 1000000000000, .int .u64 10000000000000, .int .u64 100000000000000, .int .u64 1000000000000000, .int .u64 10000000000000000, .int .u64 100000000000000000, .int .u64 1000000000000000000, .int .u64 10000000000000000000] t frozen | o => o).modify 1 fun | .cells _ t frozen => .cells #[.int .u8 0, .int .u8 1, .int .u8 28, .int .u8 2, .int .u8 29, .int .u8 14, .int .u8 24, .int .u8 3, .int .u8 30, .int .u8 22, .int .u8 20, .int .u8 15, .int .u8 25, .int .u8 17, .int .u8 4, .int .u8 8, .int .u8 31, .int .u8 27, .int .u8 13, .int .u8 23, .int .u8 21, .int .u8 19, .int .u8 16, .int .u8 7, .int .u8 26, .int .u8 12, .int .u8 18, .int .u8 6, .int .u8 11, .int .u8 5, .int .u8 10, .int .u8 9] t frozen | o => o).modify 2 fun | .cells _ t frozen => .cells #[.int .u8 0, .int .u8 1, .int .u8 56, .int .u8 2, .int .u8 57, .int .u8 49, .int .u8 28, .int .u8 3, .int .u8 61, .int .u8 58, .int .u8 42, .int .u8 50, .int .u8 38, .int .u8 29, .int .u8 17, .int .u8 4, .int .u8 62, .int .u8 47, .int .u8 59, .int .u8 36, .int .u8 45, .int .u8 43, .int .u8 51, .int .u8 22, .int .u8 53, .int .u8 39, .int .u8 33, .int .u8 30, .int .u8 24, .int .u8 18, .int .u8 12, .int .u8 5, .int .u8 63, .int .u8 55, .int .u8 48, .int .u8 27, .int .u8 60, .int .u8 41, .int .u8 37, .int .u8 16, .int .u8 46, .int .u8 35, .int .u8 44, .int .u8 21, .int .u8 52, .int .u8 32, .int .u8 23, .int .u8 11, .int .u8 54, .int .u8 26, .int .u8 40, .int .u8 15, .int .u8 34, .int .u8 20, .int .u8 31, .int .u8 10, .int .u8 25, .int .u8 14, .int .u8 19, .int .u8 9, .int .u8 13, .int .u8 8, .int .u8 7, .int .u8 6] t frozen | o => o } : World).forCall (fun _ _ => 0) ⟨#[], #[.slice none 0 0], []⟩).memory :=
  laidMet_of_run' 8 (by kernel_rfl) (by kernel_rfl)
theorem reads (os : Os) {H : Type} (enc : TypeId × Value → H) : ∃ places, DataW.whole enc Tryd.prog (({ World.holding Tryd.prog os ⟨#[], #[], []⟩ with heap := (((World.holding Tryd.prog os ⟨#[], #[], []⟩).heap.modify 0 fun | .cells _ t frozen => .cells #[.int .u64 1, .int .u64 10, .int .u64 100, .int .u64 1000, .int .u64 10000, .int .u64 100000, .int .u64 1000000, .int .u64 10000000, .int .u64 100000000, .int .u64 1000000000, .int .u64 10000000000, .int .u64 100000000000, .int .u64 1000000000000, .int .u64 10000000000000, .int .u64 100000000000000, .int .u64 1000000000000000, .int .u64 10000000000000000, .int .u64 100000000000000000, .int .u64 1000000000000000000, .int .u64 10000000000000000000] t frozen | o => o).modify 1 fun | .cells _ t frozen => .cells #[.int .u8 0, .int .u8 1, .int .u8 28, .int .u8 2, .int .u8 29, .int .u8 14, .int .u8 24, .int .u8 3, .int .u8 30, .int .u8 22, .int .u8 20, .int .u8 15, .int .u8 25, .int .u8 17, .int .u8 4, .int .u8 8, .int .u8 31, .int .u8 27, .int .u8 13, .int .u8 23, .int .u8 21, .int .u8 19, .int .u8 16, .int .u8 7, .int .u8 26, .int .u8 12, .int .u8 18, .int .u8 6, .int .u8 11, .int .u8 5, .int .u8 10, .int .u8 9] t frozen | o => o).modify 2 fun | .cells _ t frozen => .cells #[.int .u8 0, .int .u8 1, .int .u8 56, .int .u8 2, .int .u8 57, .int .u8 49, .int .u8 28, .int .u8 3, .int .u8 61, .int .u8 58, .int .u8 42, .int .u8 50, .int .u8 38, .int .u8 29, .int .u8 17, .int .u8 4, .int .u8 62, .int .u8 47, .int .u8 59, .int .u8 36, .int .u8 45, .int .u8 43, .int .u8 51, .int .u8 22, .int .u8 53, .int .u8 39, .int .u8 33, .int .u8 30, .int .u8 24, .int .u8 18, .int .u8 12, .int .u8 5, .int .u8 63, .int .u8 55, .int .u8 48, .int .u8 27, .int .u8 60, .int .u8 41, .int .u8 37, .int .u8 16, .int .u8 46, .int .u8 35, .int .u8 44, .int .u8 21, .int .u8 52, .int .u8 32, .int .u8 23, .int .u8 11, .int .u8 54, .int .u8 26, .int .u8 40, .int .u8 15, .int .u8 34, .int .u8 20, .int .u8 31, .int .u8 10, .int .u8 25, .int .u8 14, .int .u8 19, .int .u8 9, .int .u8 13, .int .u8 8, .int .u8 7, .int .u8 6] t frozen | o => o } : World).forCall (fun _ _ => 0) ⟨#[], #[.slice none 0 0], []⟩).memory Tryd.f3.params.toList Rows.storePlaysSpec.vars false (#[.slice none 0 0] : Array Value).toList 8 = some ([.nil], [], places) :=
  ⟨[], by kernel_rfl⟩

set_option maxRecDepth 100000 in
theorem lifted (os : Os) (started : os.Started) (H : Type) (enc : TypeId × Value → H) (F : Stop.Interp) :
    ReturnsInHanded {} Tryd.checked os 3 .any ((OpenSpec.ofChange Rows.storePlaysSpec).preRow enc Tryd.prog Tryd.f3 Rows.storePlaysRow.domain false Rows.storePlaysRow.laid) (((OpenSpec.ofChange Rows.storePlaysSpec).at F).post enc Tryd.prog Tryd.f3 false true false false) := by
  obtain ⟨places, hx⟩ := reads os enc
  refine returnsInHanded_of_row (C := Tryd.checked) (s := OpenSpec.ofChange Rows.storePlaysSpec) own started (by kernel_rfl) Tryd.func3
    (witness_row_at (enc := enc) (C := Tryd.checked) false ({ World.holding Tryd.prog os ⟨#[], #[], []⟩ with heap := (((World.holding Tryd.prog os ⟨#[], #[], []⟩).heap.modify 0 fun | .cells _ t frozen => .cells #[.int .u64 1, .int .u64 10, .int .u64 100, .int .u64 1000, .int .u64 10000, .int .u64 100000, .int .u64 1000000, .int .u64 10000000, .int .u64 100000000, .int .u64 1000000000, .int .u64 10000000000, .int .u64 100000000000, .int .u64 1000000000000, .int .u64 10000000000000, .int .u64 100000000000000, .int .u64 1000000000000000, .int .u64 10000000000000000, .int .u64 100000000000000000, .int .u64 1000000000000000000, .int .u64 10000000000000000000] t frozen | o => o).modify 1 fun | .cells _ t frozen => .cells #[.int .u8 0, .int .u8 1, .int .u8 28, .int .u8 2, .int .u8 29, .int .u8 14, .int .u8 24, .int .u8 3, .int .u8 30, .int .u8 22, .int .u8 20, .int .u8 15, .int .u8 25, .int .u8 17, .int .u8 4, .int .u8 8, .int .u8 31, .int .u8 27, .int .u8 13, .int .u8 23, .int .u8 21, .int .u8 19, .int .u8 16, .int .u8 7, .int .u8 26, .int .u8 12, .int .u8 18, .int .u8 6, .int .u8 11, .int .u8 5, .int .u8 10, .int .u8 9] t frozen | o => o).modify 2 fun | .cells _ t frozen => .cells #[.int .u8 0, .int .u8 1, .int .u8 56, .int .u8 2, .int .u8 57, .int .u8 49, .int .u8 28, .int .u8 3, .int .u8 61, .int .u8 58, .int .u8 42, .int .u8 50, .int .u8 38, .int .u8 29, .int .u8 17, .int .u8 4, .int .u8 62, .int .u8 47, .int .u8 59, .int .u8 36, .int .u8 45, .int .u8 43, .int .u8 51, .int .u8 22, .int .u8 53, .int .u8 39, .int .u8 33, .int .u8 30, .int .u8 24, .int .u8 18, .int .u8 12, .int .u8 5, .int .u8 63, .int .u8 55, .int .u8 48, .int .u8 27, .int .u8 60, .int .u8 41, .int .u8 37, .int .u8 16, .int .u8 46, .int .u8 35, .int .u8 44, .int .u8 21, .int .u8 52, .int .u8 32, .int .u8 23, .int .u8 11, .int .u8 54, .int .u8 26, .int .u8 40, .int .u8 15, .int .u8 34, .int .u8 20, .int .u8 31, .int .u8 10, .int .u8 25, .int .u8 14, .int .u8 19, .int .u8 9, .int .u8 13, .int .u8 8, .int .u8 7, .int .u8 6] t frozen | o => o } : World) #[.slice none 0 0] rfl (by kernel_rfl) (by kernel_rfl) (by kernel_rfl)
      (OpenSpec.preRow_of_cond 8 hx (by kernel_rfl) (fun k hk => by cases hk) (by kernel_rfl) (laid_met os))) ?_
  intro W base args ds gs before hval hW _ _ _ hL _ _
  exact contract H enc W base args ds gs before hval hW hL

theorem said : Rows.StorePlaysSaid :=
  OpenClaim.holds_of_cond 3 Tryd.f3 rfl rfl rfl rfl rfl rfl rfl ⟨rfl, rfl, rfl, rfl, rfl⟩ rfl rfl rfl rfl rfl (by kernel_rfl) Tryd.func3 (by kernel_rfl)
    (of_decide_eq_true (by kernel_rfl)) (by unfold Func.isWrapper; first | (rw [if_pos (by decide +kernel)]; kernel_rfl) | (rw [if_neg (by decide +kernel)]; exact ⟨rfl, rfl⟩))
    (fun os started H enc _ F => by rw [OpenClaim.pre_eq_preRow]; exact lifted os started H enc F)

theorem plain (f : FuncId) (fn : Func) (hf : Tryd.pinned.checked.prog.funcNamed Rows.storePlaysRow.func = some f) (hfn : Tryd.pinned.checked.prog.funcs[f]? = some fn) :
    false = Tryd.pinned.checked.prog.looks [] ∧ ∀ (j : Nat) t, fn.params[j]? = some t → Tryd.pinned.checked.prog.wantsStandIn t = false := by
  obtain rfl : f = 3 := Option.some.inj ((show Tryd.prog.funcNamed Rows.storePlaysRow.func = some 3 by kernel_rfl).symm.trans hf) |>.symm
  obtain rfl : fn = Tryd.f3 := (Option.some.inj (Tryd.func3.symm.trans hfn)).symm
  refine ⟨by kernel_rfl, fun j t ht => ?_⟩
  rw [Tryd.params3] at ht
  have hm : t = 22 := by first | simpa using Array.mem_of_getElem? ht | (have h := Array.mem_of_getElem? ht; simp only [List.mem_toArray, List.mem_cons, List.not_mem_nil, or_false] at h; rcases h with rfl <;> simp)
  rcases hm with rfl
  · exact (show Tryd.prog.wantsStandIn 22 = false by kernel_rfl)

theorem card : Rows.StorePlaysCardSaid :=
  Claim7.holds_tied_plain_at .later [] _ _ _ _ said (fun _ h => by cases h) (by kernel_rfl) (fun _ h => by cases h) storePlays_row_tie rfl ⟨rfl, rfl⟩ (by kernel_rfl) rfl plain (by kernel_rfl)

end Go.Proofs.YtffnkomnldgcaaaDoor.StorePlays
namespace Go.Proofs.YtffnkomnldgcaaaDoor
theorem storePlays_card : Rows.StorePlaysCardSaid := StorePlays.card
#print axioms storePlays_card
end Go.Proofs.YtffnkomnldgcaaaDoor

