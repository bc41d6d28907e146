/-
  Contracts of package store: copied, State.
-/
import Derived.Test.YtffnkomnldgcaaaGreatDoorSo3
import Derived.Deep.RegionHeld3
namespace Go.Proofs.YtffnkomnldgcaaaGreatDoor
open Go.RowKit Go.Pal Go.Pal.Dk Go.Pal.Fr Go.Pal.Cr

/-- Texts and lists of a state are no longer than so. -/
structure SzS (s : SS) (n : Nat) : Prop where
  room : s.room.size ≤ 1000000
  ev : ∀ x ∈ s.events, x.size ≤ 1000000
  qu : ∀ x ∈ s.queue, x.size ≤ 1000000
  el : s.events.length ≤ n
  ql : s.queue.length ≤ n
theorem sz0 : SzS ss0 0 := ⟨by decide, fun x h => (by cases h), fun x h => (by cases h), Nat.le_refl _, Nat.le_refl _⟩
theorem SzS.take {s s' : SS} {n : Nat} {r : ByteArray} (h : SzS s n) (hr : r.size ≤ 1000000) (ht : takeR s r = some s') : SzS s' (n + 1) := by
  have hz : (restB r).size ≤ 1000000 := by unfold restB; rw [ByteArray.size_extract]; omega
  have h1 := h.el
  have h2 := h.ql
  unfold takeR at ht
  split at ht
  · cases ht
  split at ht
  · split at ht
    · obtain rfl := Option.some.inj ht
      exact ⟨hz, h.ev, h.qu, by show s.events.length ≤ _; omega, by show s.queue.length ≤ _; omega⟩
    · cases ht
  split at ht
  · obtain rfl := Option.some.inj ht
    refine ⟨h.room, fun x hx => ?_, h.qu, by simp; omega, by show s.queue.length ≤ _; omega⟩
    rcases List.mem_append.1 hx with hx | hx
    · exact h.ev x hx
    · rw [List.mem_singleton.1 hx]; exact hz
  split at ht
  · split at ht
    · obtain rfl := Option.some.inj ht
      exact ⟨h.room, h.ev, h.qu, by show s.events.length ≤ _; omega, by show s.queue.length ≤ _; omega⟩
    · cases ht
  split at ht
  · obtain rfl := Option.some.inj ht
    refine ⟨h.room, h.ev, fun x hx => ?_, by show s.events.length ≤ _; omega, by simp; omega⟩
    rcases List.mem_append.1 hx with hx | hx
    · exact h.qu x hx
    · rw [List.mem_singleton.1 hx]; exact hz
  split at ht
  · split at ht
    · obtain rfl := Option.some.inj ht
      exact ⟨h.room, h.ev, fun x hx => h.qu x (List.mem_of_mem_tail hx), by show s.events.length ≤ _; omega, by simp; omega⟩
    · cases ht
  · cases ht

theorem str_cell {w : World} {a : Option Addr} {l : List ByteArray} (h : StrRow w a l) (k : Nat) (hk : k < l.length) : ∃ b off, a = some ⟨b, off, none⟩ ∧ w.cell? ⟨b, off + k, none⟩ = some (.string (l.getD k ByteArray.empty)) := by
  rcases h with rfl | ⟨b, off, ha, _, hc⟩
  · simp at hk
  · exact ⟨b, off, ha, hc k hk⟩
set_option maxHeartbeats 1000000 in
set_option maxRecDepth 100000 in
theorem copied_any (w : World) (a : Option Addr) (cap : Nat) (l : List ByteArray) (hrow : StrRow w a l) (hl : l.length ≤ 1000000) (_ : l.length ≤ cap) (hsz : ∀ x ∈ l, x.size ≤ 1000000) :
    Calls Tryz.prog 26 #[.slice a l.length cap] w fun e w' => ∃ v, e = .returned v ∧ QR w' 9 w.heap.size v l ∧ Below w.heap.size w w' := by
  obtain ⟨i0, I0, Z0, Z1, Z2⟩ : ∃ i : TypeInfo, Tryz.prog.info? 9 = some i ∧ i.zero = some (.string ⟨#[]⟩) ∧ i.size = 1 ∧ i.bytes = 16 := ⟨_, rfl, rfl, rfl, rfl⟩
  have HI := Lib.hid I0
  have HZ0 := Lib.hid Z0
  have HZ1 := Lib.hid Z1
  have HZ2 := Lib.hid Z2
  clear I0 Z0 Z1 Z2
  have HROW := Lib.hid hrow
  have HSZ := Lib.hid hsz
  clear hrow hsz
  go_enter Tryz.func26, Tryz.ntmps26
  go_wp2
  go_loopw [3, 8] (fun v i wr => ∃ k : Nat, k ≤ l.length ∧ i = .int .i64 (k : Int) ∧ QR wr 9 w.heap.size v (l.take k) ∧ Below w.heap.size w wr) (fun v i _ => l.length - (intOf i).toNat)
  case atStart => exact ⟨0, Nat.zero_le _, rfl, QR.nil _ _ _, Below.refl _ _⟩
  case round =>
    obtain ⟨k, hk, rfl, hq, hb⟩ := hrel
    by_cases hlt : k < l.length
    · obtain ⟨b, off, rfl, hck⟩ := str_cell (HROW.out.below hb) k hlt
      have hsr : (l.getD k ByteArray.empty).size ≤ 1000000 := HSZ.out _ (by rw [List.getD_eq_getElem?_getD, List.getElem?_eq_getElem hlt]; exact List.getElem_mem hlt)
      have HTK := Lib.hid (show l.take (k + 1) = l.take k ++ [l.getD k ByteArray.empty] by rw [List.take_succ_eq_append_getElem hlt, List.getD_eq_getElem?_getD, List.getElem?_eq_getElem hlt]; rfl)
      generalize l.getD k ByteArray.empty = r at *
      have HC := Lib.hid (fun W => clone_any r W (by omega))
      have HQ := Lib.hid hq
      have HB := Lib.hid hb
      clear hq hb
      go_wp2_with fail
      refine (HC.out _).mono ?_
      rintro e w1 ⟨rfl, b1⟩
      have Q1 := Lib.hid (HQ.out.below b1 (Nat.le_refl _))
      have HW1 := Lib.hid (show w.heap.size ≤ w1.heap.size from Nat.le_trans HB.out.size b1.size)
      have HBW := Lib.hid (HB.out.trans (b1.mono HB.out.size))
      have HL1 := Lib.hid (show (l.take k).length ≤ 1000000000 by rw [List.length_take]; omega)
      have QA := Lib.hid ((Q1.out).keep (w' := w1.alloc (.cells #[.string r] 9)) (fun g hg => heap_alloc_old w1 _ (Q1.out.lt hg).1))
      have HN1 := Lib.hid (one_new w1 9 r)
      have HB2 := Lib.hid (show w.heap.size ≤ (w1.alloc (.cells #[.string r] 9)).heap.size by have := HW1.out; simp; omega)
      have BA := Lib.hid (HBW.out.alloc HW1.out (.cells #[.string r] 9))
      clear b1
      go_wp2_with (at_builtin; refine wpList_append_q _ rfl _ _ 34 rfl w.heap.size 9 i0 Tryz.underlying34 HI.out HZ0.out HZ1.out HZ2.out _ (l.take k) rfl QA.out ⟨w1.heap.size, 0, none⟩ 1 r rfl HN1.out HL1.out HB2.out ?_)
      intro v2 w2 q2 g2 a2
      have B3 := Lib.hid (show Below w.heap.size w w2 from ⟨g2.os.trans BA.out.os, g2.tape.trans BA.out.tape, g2.output.trans BA.out.output, Nat.le_trans BA.out.size g2.size, fun g hg => (g2.block g (Nat.lt_of_lt_of_le hg BA.out.size) (fun e => by have := (QA.out.lt e.symm).2.1; omega)).trans (BA.out.block g hg)⟩)
      have Q3 := Lib.hid q2
      clear q2 g2 a2
      go_wp2
      go_roundw
      case rel => exact ⟨k + 1, hlt, by go_num, by rw [HTK.out]; exact Q3.out, B3.out⟩
      case measure => simp [intOf]; omega
    · obtain rfl : k = l.length := by omega
      have HQ := Lib.hid hq
      have HB := Lib.hid hb
      clear hq hb
      go_wp2
      go_ret
      have := HQ.out
      rw [List.take_length] at this
      exact ⟨_, rfl, this, HB.out⟩
/-- Four cells, stored one behind the other, are read as they were stored. -/
theorem put4 {W : World} {R : Nat} {t : TypeId} {u0 u1 u2 u3 : Value} (h : Blk W R t [u0, u1, u2, u3]) (a0 a1 a2 a3 : Value) :
    (W.setCell ⟨R, 0, none⟩ a0).cell? ⟨R, 0, none⟩ = some a0 ∧ ((W.setCell ⟨R, 0, none⟩ a0).setCell ⟨R, 1, none⟩ a1).cell? ⟨R, 1, none⟩ = some a1 ∧
    (((W.setCell ⟨R, 0, none⟩ a0).setCell ⟨R, 1, none⟩ a1).setCell ⟨R, 2, none⟩ a2).cell? ⟨R, 2, none⟩ = some a2 ∧
    ((((W.setCell ⟨R, 0, none⟩ a0).setCell ⟨R, 1, none⟩ a1).setCell ⟨R, 2, none⟩ a2).setCell ⟨R, 3, none⟩ a3).cell? ⟨R, 3, none⟩ = some a3 :=
  ⟨(h.set 0 a0).cell 0, ((h.set 0 a0).set 1 a1).cell 1, (((h.set 0 a0).set 1 a1).set 2 a2).cell 2, ((((h.set 0 a0).set 1 a1).set 2 a2).set 3 a3).cell 3⟩
theorem below4 {w W : World} {R n : Nat} (h : Below n w W) (hR : n ≤ R) (a0 a1 a2 a3 : Value) :
    Below n w ((((W.setCell ⟨R, 0, none⟩ a0).setCell ⟨R, 1, none⟩ a1).setCell ⟨R, 2, none⟩ a2).setCell ⟨R, 3, none⟩ a3) :=
  (((h.setCell hR _).setCell hR _).setCell hR _).setCell hR _
theorem heap4 (W : World) (R k : Nat) (hk : k ≠ R) (a0 a1 a2 a3 : Value) :
    ((((W.setCell ⟨R, 0, none⟩ a0).setCell ⟨R, 1, none⟩ a1).setCell ⟨R, 2, none⟩ a2).setCell ⟨R, 3, none⟩ a3).heap[k]? = W.heap[k]? := by
  rw [heap_setCell_other _ _ _ _ hk, heap_setCell_other _ _ _ _ hk, heap_setCell_other _ _ _ _ hk, heap_setCell_other _ _ _ _ hk]
/-- A state that is told, in rows of its asker's own. -/
def Told (w : World) (s : SS) (e : Ending) (w' : World) : Prop :=
  ∃ v1 v2, e = .returned (.agg #[.string s.room, v1, .int .i64 (s.used : Int), v2]) ∧ QR w' 9 w.heap.size v1 s.events ∧ QR w' 9 w.heap.size v2 s.queue ∧ (∀ g, v1.ownBlock = some g → v2.ownBlock ≠ some g) ∧ Below w.heap.size w w'
set_option maxHeartbeats 2000000 in
set_option maxRecDepth 100000 in
theorem state_any {w : World} {base B : Nat} {p : Value} {s : SS} {ev q : Value} (h : StAt w base B p s ev q) (hz : SzS s 1000000) :
    Calls Tryz.prog 13 #[.pointer (some ⟨B, 0, none⟩)] w (Told w s) := by
  obtain ⟨ea, ec, rfl, he1, he2, he3⟩ := h.evs.form
  obtain ⟨qa, qc, rfl, hq1, hq2, hq3⟩ := h.qs.form
  obtain ⟨w1, hw1⟩ : ∃ W, W = w.alloc (.cells #[.string ⟨#[]⟩, .slice none 0 0, .int .i64 0, .slice none 0 0] 45) := ⟨_, rfl⟩
  have b1 : Below w.heap.size w w1 := by rw [hw1]; exact (Below.refl _ _).alloc (Nat.le_refl _) _
  have hlt1 : w1.heap.size = w.heap.size + 1 := by rw [hw1]; simp
  have R1 : Blk w1 w.heap.size 45 [.string ⟨#[]⟩, .slice none 0 0, .int .i64 0, .slice none 0 0] := by rw [hw1]; exact Blk.new w _ _
  have B1 := h.blk.below b1 h.blk.lt
  have hBl := h.blk.lt
  have k1 : w1.cell? ⟨B, 1, none⟩ = some (.string s.room) := B1.cell 1
  have k2 : w1.cell? ⟨B, 2, none⟩ = some (.slice ea s.events.length ec) := B1.cell 2
  have k3 : w1.cell? ⟨B, 3, none⟩ = some (.int .i64 (s.used : Int)) := B1.cell 3
  have k4 : w1.cell? ⟨B, 4, none⟩ = some (.slice qa s.queue.length qc) := B1.cell 4
  have HCL := Lib.hid (show ∀ (Wq : World), Below w1.heap.size w1 Wq → Calls Tryz.prog 25 #[.string s.room] Wq fun e w' => e = .returned (.string s.room) ∧ Below w1.heap.size w1 w' from fun Wq hq => (clone_any s.room Wq (by have := hz.room; omega)).mono (fun e w' ⟨a, b⟩ => ⟨a, hq.trans (b.mono hq.size)⟩))
  have r3 := he3.below b1
  have r4 := hq3.below b1
  have HCE := Lib.hid (show ∀ (Wq : World), Below w1.heap.size w1 Wq → ∀ (a : Option Addr) (cap : Nat) (l : List ByteArray), StrRow w1 a l → l.length ≤ 1000000 → l.length ≤ cap → (∀ x ∈ l, x.size ≤ 1000000) → Calls Tryz.prog 26 #[.slice a l.length cap] Wq fun e w' => ∃ v, e = .returned v ∧ QR w' 9 Wq.heap.size v l ∧ Below Wq.heap.size Wq w' ∧ Below w1.heap.size w1 w' from fun Wq hq a cap l hr h1 h2 h3 => (copied_any Wq a cap l (hr.below hq) h1 h2 h3).mono (fun e w' ⟨v, a, b, c⟩ => ⟨v, a, b, c, hq.trans (c.mono hq.size)⟩))
  have HZ := Lib.hid hz
  have HB1 := Lib.hid b1
  have HR1 := Lib.hid R1
  have bdr : Below w1.heap.size w1 w1.drew := (Below.refl _ _).drew
  have hBl1 : B < w1.heap.size := by omega
  have hBne : B ≠ w.heap.size := by omega
  have kd1 : w1.drew.cell? ⟨B, 1, none⟩ = some (.string s.room) := k1
  have kd2 : w1.drew.cell? ⟨B, 2, none⟩ = some (.slice ea s.events.length ec) := k2
  have kd3 : w1.drew.cell? ⟨B, 3, none⟩ = some (.int .i64 (s.used : Int)) := k3
  have kd4 : w1.drew.cell? ⟨B, 4, none⟩ = some (.slice qa s.queue.length qc) := k4
  have z1 := hz.el
  have z2 := hz.ev
  have z3 := hz.ql
  have z4 := hz.qu
  clear h hz b1 R1 B1 he3 hq3
  go_enter Tryz.func13, Tryz.ntmps13
  go_wp2
  rw [← hw1]
  clear hw1
  go_region_held3 (fun w' => w'.cell? ⟨B, 1, none⟩ = some (.string s.room) ∧ w'.cell? ⟨B, 2, none⟩ = some (.slice ea s.events.length ec) ∧ w'.cell? ⟨B, 3, none⟩ = some (.int .i64 (s.used : Int)) ∧ w'.cell? ⟨B, 4, none⟩ = some (.slice qa s.queue.length qc))
    (first | with_reducible exact ⟨(b8.cell (p := ⟨B, 1, none⟩) hBl1).trans k1, (b8.cell (p := ⟨B, 2, none⟩) hBl1).trans k2, (b8.cell (p := ⟨B, 3, none⟩) hBl1).trans k3, (b8.cell (p := ⟨B, 4, none⟩) hBl1).trans k4⟩ | with_reducible exact (b8.cell (p := ⟨B, 1, none⟩) hBl1).trans k1 | with_reducible exact (b8.cell (p := ⟨B, 2, none⟩) hBl1).trans k2 | with_reducible exact (b8.cell (p := ⟨B, 3, none⟩) hBl1).trans k3 | with_reducible exact (b8.cell (p := ⟨B, 4, none⟩) hBl1).trans k4 | with_reducible exact ⟨(b7.cell (p := ⟨B, 1, none⟩) hBl1).trans k1, (b7.cell (p := ⟨B, 2, none⟩) hBl1).trans k2, (b7.cell (p := ⟨B, 3, none⟩) hBl1).trans k3, (b7.cell (p := ⟨B, 4, none⟩) hBl1).trans k4⟩ | with_reducible exact (b7.cell (p := ⟨B, 1, none⟩) hBl1).trans k1 | with_reducible exact (b7.cell (p := ⟨B, 2, none⟩) hBl1).trans k2 | with_reducible exact (b7.cell (p := ⟨B, 3, none⟩) hBl1).trans k3 | with_reducible exact (b7.cell (p := ⟨B, 4, none⟩) hBl1).trans k4 | with_reducible exact ⟨(b6.cell (p := ⟨B, 1, none⟩) hBl1).trans k1, (b6.cell (p := ⟨B, 2, none⟩) hBl1).trans k2, (b6.cell (p := ⟨B, 3, none⟩) hBl1).trans k3, (b6.cell (p := ⟨B, 4, none⟩) hBl1).trans k4⟩ | with_reducible exact (b6.cell (p := ⟨B, 1, none⟩) hBl1).trans k1 | with_reducible exact (b6.cell (p := ⟨B, 2, none⟩) hBl1).trans k2 | with_reducible exact (b6.cell (p := ⟨B, 3, none⟩) hBl1).trans k3 | with_reducible exact (b6.cell (p := ⟨B, 4, none⟩) hBl1).trans k4 | exact ⟨kd1, kd2, kd3, kd4⟩ | with_reducible exact kd1 | with_reducible exact kd2 | with_reducible exact kd3 | with_reducible exact kd4 | with_reducible exact ⟨(World.cell?_of_block (a := ⟨B, 1, none⟩) (heap4 w8 w.heap.size B hBne _ _ _ _)).trans ((b8.cell (p := ⟨B, 1, none⟩) hBl1).trans k1), (World.cell?_of_block (a := ⟨B, 2, none⟩) (heap4 w8 w.heap.size B hBne _ _ _ _)).trans ((b8.cell (p := ⟨B, 2, none⟩) hBl1).trans k2), (World.cell?_of_block (a := ⟨B, 3, none⟩) (heap4 w8 w.heap.size B hBne _ _ _ _)).trans ((b8.cell (p := ⟨B, 3, none⟩) hBl1).trans k3), (World.cell?_of_block (a := ⟨B, 4, none⟩) (heap4 w8 w.heap.size B hBne _ _ _ _)).trans ((b8.cell (p := ⟨B, 4, none⟩) hBl1).trans k4)⟩ | fail)
    (first
      | (go_at_call 25; refine (HCL.out _ (by first | exact bdr)).mono ?_; rintro e w6 ⟨rfl, b6⟩)
      | (go_at_call 26; have hq7 := q7; refine (HCE.out _ (by first | exact b7) _ _ _ (by assumption) (by assumption) (by assumption) (by assumption)).mono ?_; rintro e w8 ⟨v8, rfl, q8, c8, b8⟩; obtain ⟨a8, cap8, rfl, _, _, _⟩ := q8.form; have R8 := HR1.out.below b8 (by omega); have x0 := R8.cell 0; have x1 := R8.cell 1; have x2 := R8.cell 2; have x3 := R8.cell 3; have y0 := R8.frozen 0; have y1 := R8.frozen 1; have y2 := R8.frozen 2; have y3 := R8.frozen 3; simp only [List.getElem?_cons_zero, List.getElem?_cons_succ] at x0 x1 x2 x3)
      | (go_at_call 26; refine (HCE.out _ (by first | exact b6) _ _ _ (by assumption) (by assumption) (by assumption) (by assumption)).mono ?_; rintro e w7 ⟨v7, rfl, q7, c7, b7⟩; obtain ⟨a7, cap7, rfl, _, _, _⟩ := q7.form))
  have HQ7 := Lib.hid q7
  have HQ8 := Lib.hid q8
  have HC8 := Lib.hid c8
  have HB6 := Lib.hid b6
  have HB7 := Lib.hid b7
  have HB8 := Lib.hid b8
  obtain ⟨s0, s1, s2, s3⟩ := put4 R8 (.string s.room) (.slice a7 s.events.length cap7) (.int .i64 (s.used : Int)) (.slice a8 s.queue.length cap8)
  clear q7 hq7 q8 c7 c8 b6 b7 b8 R8 x0 x1 x2 x3 y0 y1 y2 y3 k1 k2 k3 k4 kd1 kd2 kd3 kd4 r3 r4 z1 z2 z3 z4 HCE HCL bdr
  go_wp2
  refine bodyPost_ret (by simp [results, Tryz.results13, go_sem, s0, s1, s2, s3]; try rfl) rfl ?_
  have hw6 : w1.heap.size ≤ w6.heap.size := HB6.out.size
  have e7 : ∀ g, (Value.slice a7 s.events.length cap7).ownBlock = some g → w.heap.size < g := fun g hg => by have := (HQ7.out.lt hg).2.1; omega
  have e8 : ∀ g, (Value.slice a8 s.queue.length cap8).ownBlock = some g → w.heap.size < g := fun g hg => by have := (HQ8.out.lt hg).2.1; have := HB7.out.size; omega
  refine ⟨_, _, rfl, ?_, ?_, fun g h1 h2 => ?_, ?_⟩
  · exact ((HQ7.out.weak (by omega)).below HC8.out (Nat.le_refl _)).keep (fun g hg => heap4 w8 _ g (by have := e7 g hg; omega) _ _ _ _)
  · exact (HQ8.out.weak (by have := HB7.out.size; omega)).keep (fun g hg => heap4 w8 _ g (by have := e8 g hg; omega) _ _ _ _)
  · have := (HQ7.out.lt h1).1
    have := (HQ8.out.lt h2).2.1
    omega
  · exact below4 (HB1.out.trans (HB8.out.mono (by omega))) (Nat.le_refl _) _ _ _ _
end Go.Proofs.YtffnkomnldgcaaaGreatDoor
