/-
  Contracts of package event: rightByKind, rightParents, Right.
-/
import Derived.Test.YtggfmnmopfdiaaaGreatDoorE0
import Derived.Test.YtggfmnmopfdiaaaGreatDoorOct3
import Derived.Test.YtggfmnmopfdiaaaGreatDoorBlk
import Derived.BigQuiet
import Derived.Deep.QuietTactic
import Derived.Lib.Hide
namespace Go.Proofs.YtggfmnmopfdiaaaGreatDoor
open Go.RowKit Go.Pal Go.Pal.Fr Go.Pal.Ev

theorem row_some {w : World} {a : Option Addr} {l : List ByteArray} (h : StrRow w a l) (h0 : 0 < l.length) : ∃ b off, a = some ⟨b, off, none⟩ ∧ b < w.heap.size := by
  rcases h with h | ⟨b, off, rfl, hbl, _⟩
  · rw [h] at h0; simp at h0
  · exact ⟨b, off, rfl, hbl⟩
theorem row_cell {w : World} {b off : Nat} {l : List ByteArray} (h : StrRow w (some ⟨b, off, none⟩) l) (i : Nat) (hi : i < l.length) : w.cell? ⟨b, off + i, none⟩ = some (.string (at' l i)) := by
  rcases h with h | ⟨b2, o2, he, _, hc⟩
  · rw [h] at hi; simp at hi
  · cases he; exact hc i hi

set_option maxHeartbeats 1000000 in
theorem bykind_any (w : World) (e : E) (a : Option Addr) (c : Nat) (hl : e.parents.length ≤ maxLen) (hb : e.body.size ≤ maxLen) :
    Calls Tryz.prog 66 #[evV e a c] w fun r w' => r = .returned (.bool (evKind e.kind e.parents.length e.body.size)) ∧ Below w.heap.size w w' := by
  obtain ⟨k, au, l, bo, sg⟩ := e
  unfold evV
  simp only at hl hb ⊢
  generalize l.length = n at *
  generalize hz : bo.size = z at *
  unfold maxLen at hl hb
  by_cases h45 : k = 4 ∨ k = 5
  · by_cases h32 : z = 32
    · have e1 : evKind k n z = decide (0 < n) := by simp [evKind, h45, h32]
      rw [e1]
      subst h32
      rcases h45 with rfl | rfl
      all_goals
        go_enter Tryz.func66, Tryz.ntmps66
        go_wp2
        go_ret
        exact ⟨by first | rfl | exact ret_b (by rw [Bool.eq_iff_iff]; simp) | exact ret_b (by rw [Bool.eq_iff_iff]; simp; omega), (Below.refl _ _).alloc (Nat.le_refl _) _⟩
    · have e1 : evKind k n z = false := by simp [evKind, h45, h32]
      have h33 : ((bo.size : Int) != 32) = true := by simp; omega
      rw [e1]
      rcases h45 with rfl | rfl
      all_goals
        go_enter Tryz.func66, Tryz.ntmps66
        go_wp2
        go_ret
        exact ⟨by first | rfl | exact ret_b (by rw [Bool.eq_iff_iff]; simp) | exact ret_b (by rw [Bool.eq_iff_iff]; simp; omega), (Below.refl _ _).alloc (Nat.le_refl _) _⟩
  · by_cases h23 : k = 2 ∨ k = 3
    · have e1 : evKind k n z = decide (0 < n) := by simp only [evKind, h45, h23, if_true, if_false]
      rw [e1]
      rcases h23 with rfl | rfl
      all_goals
        go_enter Tryz.func66, Tryz.ntmps66
        go_wp2
        go_ret
        exact ⟨by first | rfl | exact ret_b (by rw [Bool.eq_iff_iff]; simp) | exact ret_b (by rw [Bool.eq_iff_iff]; simp; omega), (Below.refl _ _).alloc (Nat.le_refl _) _⟩
    · by_cases h1 : k = 1
      · have e1 : evKind k n z = decide (n = 0) := by simp [evKind, h1]
        rw [e1]
        subst h1
        go_enter Tryz.func66, Tryz.ntmps66
        go_wp2
        go_ret
        exact ⟨by first | rfl | exact ret_b (by rw [Bool.eq_iff_iff]; simp) | exact ret_b (by rw [Bool.eq_iff_iff]; simp; omega), (Below.refl _ _).alloc (Nat.le_refl _) _⟩
      · have e1 : evKind k n z = false := by simp only [evKind, h45, h23, h1, if_false]
        rw [e1]
        have k1 : (k == 1) = false := by simpa using h1
        have k2 : (k == 2) = false := by simp; omega
        have k3 : (k == 3) = false := by simp; omega
        have k4 : (k == 4) = false := by simp; omega
        have k5 : (k == 5) = false := by simp; omega
        go_enter Tryz.func66, Tryz.ntmps66
        go_wp2
        go_ret
        exact ⟨by first | rfl | exact ret_b (by rw [Bool.eq_iff_iff]; simp) | exact ret_b (by rw [Bool.eq_iff_iff]; simp; omega), (Below.refl _ _).alloc (Nat.le_refl _) _⟩

set_option maxHeartbeats 1000000 in
theorem parents_any (w : World) (a : Option Addr) (c : Nat) (l : List ByteArray) (h : StrRow w a l) (hl : l.length ≤ maxLen) (hs : ∀ i, (at' l i).size ≤ maxLen) :
    Calls Tryz.prog 67 #[.slice a l.length c] w fun r w' => r = .returned (.bool (parOk l)) ∧ Same w w' := by
  unfold maxLen at hl hs
  by_cases h8 : l.length ≤ 8
  case neg =>
    have e1 : parOk l = false := by simp [parOk, h8]
    rw [e1]
    have h9 : decide ((8 : Int) < l.length) = true := by simp; omega
    clear e1 h hs
    go_enter Tryz.func67, Tryz.ntmps67
    go_wp2
    go_ret
    exact ⟨rfl, Same.refl w⟩
  have e1 : parOk l = idsOk l := by simp [parOk, h8]
  rw [e1]
  have h9 : decide ((8 : Int) < l.length) = false := by simp; omega
  have H := Lib.hid h
  have HS := Lib.hid hs
  clear h e1 hs
  go_enter Tryz.func67, Tryz.ntmps67
  go_wp2
  clear h9
  go_loopw [10] (fun i wr => ∃ k : Nat, k ≤ l.length ∧ i = .int .i64 k ∧ (∀ j, j < k → riseAt l j = true) ∧ Same w wr) (fun i _ => l.length - (intOf i).toNat)
  case atStart => exact ⟨0, by omega, rfl, fun j hj => by omega, Same.refl w⟩
  case round =>
    obtain ⟨k, hk, rfl, hup, hsm⟩ := hrel
    by_cases hlt : k < l.length
    · obtain ⟨b1, o1, rfl, _⟩ := row_some H.out (by omega)
      have c1 := (hsm.cell _).trans (row_cell H.out k hlt)
      have hz := HS.out k
      have HSM := Lib.hid hsm
      have HUP := Lib.hid hup
      clear hsm hup
      by_cases h32 : (at' l k).size = 32
      · have z1 : (((at' l k).size : Int) != 32) = false := by simp; omega
        by_cases h0 : k = 0
        · subst h0
          have hr : riseAt l 0 = true := by simp [riseAt, h32]
          have HR := Lib.hid hr
          rw [Nat.add_zero] at c1
          clear hr
          generalize at' l 0 = x at *
          go_wp2
          go_roundw
          case rel => exact ⟨1, by omega, by go_num, fun j hj => by obtain rfl : j = 0 := by omega
                                                                    exact HR.out, HSM.out⟩
          case measure => simp [intOf]; omega
        · have c2 := (HSM.out.cell _).trans (row_cell H.out (k - 1) (by omega))
          have hk1 : (1 : Int) ≤ (k : Int) := by omega
          have hr : riseAt l k = Op.bytesLess (at' l (k - 1)).toList (at' l k).toList := by simp [riseAt, h32, h0]
          have HR := Lib.hid hr
          clear hr
          generalize at' l k = x at *
          generalize at' l (k - 1) = y at *
          cases hlss : Op.bytesLess y.toList x.toList
          · go_wp2
            go_ret
            exact ⟨by rw [idsOk_false hlt (HR.out.trans hlss)]; rfl, HSM.out⟩
          · have HLS := Lib.hid hlss
            go_wp2
            go_roundw
            case rel => exact ⟨k + 1, by omega, by go_num, fun j hj => by by_cases hj2 : j < k
                                                                          · exact HUP.out j hj2
                                                                          · obtain rfl : j = k := by omega
                                                                            exact HR.out.trans HLS.out, HSM.out⟩
            case measure => simp [intOf]; omega
      · have z1 : (((at' l k).size : Int) != 32) = true := by simp; omega
        have hr : riseAt l k = false := by simp [riseAt, h32]
        have HR := Lib.hid hr
        clear hr
        generalize at' l k = x at *
        go_wp2
        go_ret
        exact ⟨by rw [idsOk_false hlt HR.out]; rfl, HSM.out⟩
    · have e2 : idsOk l = true := idsOk_true fun i hi => hup i (by omega)
      have HE := Lib.hid e2
      have HSM := Lib.hid hsm
      clear hsm hup e2
      obtain rfl : k = l.length := by omega
      go_wp2
      go_ret
      exact ⟨by rw [HE.out]; rfl, HSM.out⟩

theorem alloc_below (w : World) (o : Obj) : Below w.heap.size w (w.alloc o) := (Below.refl _ _).alloc (Nat.le_refl _) _
theorem box_cell {w w1 : World} {cs : Array Value} {t : TypeId} (q : Below (w.alloc (.cells cs t)).heap.size (w.alloc (.cells cs t)) w1) (i : Nat) : w1.cell? ⟨w.heap.size, i, none⟩ = cs[i]? := by
  rw [q.cell (p := ⟨w.heap.size, i, none⟩) (by simp), World.cell?_alloc_mark]
theorem box_cells {w w1 : World} {v0 v1 v2 v3 v4 : Value} {t : TypeId} (q : Below (w.alloc (.cells #[v0, v1, v2, v3, v4] t)).heap.size (w.alloc (.cells #[v0, v1, v2, v3, v4] t)) w1) :
    w1.cell? ⟨w.heap.size, 0, none⟩ = some v0 ∧ w1.cell? ⟨w.heap.size, 1, none⟩ = some v1 ∧ w1.cell? ⟨w.heap.size, 2, none⟩ = some v2 ∧ w1.cell? ⟨w.heap.size, 3, none⟩ = some v3 ∧ w1.cell? ⟨w.heap.size, 4, none⟩ = some v4 :=
  ⟨box_cell q 0, box_cell q 1, box_cell q 2, box_cell q 3, box_cell q 4⟩
theorem sameB {w w' : World} (h : Same w w') : Below w.heap.size w w' := Same.below h _
set_option maxHeartbeats 1000000 in
theorem right_any (w : World) (e : E) (a : Option Addr) (c : Nat) (h : StrRow w a e.parents) (hl : e.parents.length ≤ maxLen) (hs : ∀ i, (at' e.parents i).size ≤ maxLen) (hb : e.body.size ≤ maxLen) :
    Calls Tryz.prog 38 #[evV e a c] w fun r w' => r = .returned (.bool (evOk e)) ∧ Below w.heap.size w w' := by
  have HK := Lib.hid (fun W => bykind_any W e a c hl hb)
  have HP := Lib.hid (fun W (hB : Below w.heap.size w W) => parents_any W a c e.parents (h.below hB) hl hs)
  have hok : evOk e = (evKind e.kind e.parents.length e.body.size && parOk e.parents && decide (e.author.size = 32) && decide (e.body.size ≤ 200) && decide (e.sig.size ≤ 65535)) := rfl
  obtain ⟨k, au, l, bo, sg⟩ := e
  unfold evV at HK ⊢
  simp only at HK HP hok ⊢
  rw [hok]
  clear hok h hl hs hb
  generalize evKind k l.length bo.size = b1 at *
  generalize parOk l = b2 at *
  cases b1
  · go_enter Tryz.func38, Tryz.ntmps38
    go_wp2_with fail
    refine (HK.out _).mono ?_
    rintro r w1 ⟨rfl, q1⟩
    have B1 := Lib.hid ((alloc_below w _).trans (q1.mono (alloc_below w _).size))
    clear q1
    go_wp2
    go_ret
    exact ⟨by simp, B1.out⟩
  · cases b2
    · go_enter Tryz.func38, Tryz.ntmps38
      go_wp2_with fail
      refine (HK.out _).mono ?_
      rintro r w1 ⟨rfl, q1⟩
      have q0 := (alloc_below w _).trans (q1.mono (alloc_below w _).size)
      have HP1 := Lib.hid (HP.out w1 q0)
      have B1 := Lib.hid q0
      obtain ⟨c0, c1, c2, c3, c4⟩ := box_cells q1
      clear q1 q0
      go_wp2_with fail
      refine HP1.out.mono ?_
      rintro r w2 ⟨rfl, q2⟩
      have B2 := Lib.hid (B1.out.trans ((sameB q2).mono B1.out.size))
      clear q2
      go_wp2
      go_ret
      exact ⟨by simp, B2.out⟩
    · go_enter Tryz.func38, Tryz.ntmps38
      go_wp2_with fail
      refine (HK.out _).mono ?_
      rintro r w1 ⟨rfl, q1⟩
      have q0 := (alloc_below w _).trans (q1.mono (alloc_below w _).size)
      have HP1 := Lib.hid (HP.out w1 q0)
      have B1 := Lib.hid q0
      have Q1 := Lib.hid q1
      obtain ⟨c0, c1, c2, c3, c4⟩ := box_cells q1
      clear q1 q0
      go_wp2_with fail
      refine HP1.out.mono ?_
      rintro r w2 ⟨rfl, q2⟩
      have B2 := Lib.hid (B1.out.trans ((sameB q2).mono B1.out.size))
      clear c0 c1 c2 c3 c4
      obtain ⟨c0, c1, c2, c3, c4⟩ := box_cells (Q1.out.trans ((sameB q2).mono Q1.out.size))
      clear q2
      by_cases h32 : au.size = 32
      · by_cases h200 : bo.size ≤ 200
        · have d1 : decide ((bo.size : Int) ≤ 200) = true := by simp; omega
          have d2 : decide ((sg.size : Int) ≤ 65535) = decide (sg.size ≤ 65535) := by rw [Bool.eq_iff_iff]; simp; omega
          have d0 : ((au.size : Int) == 32) = true := by simp; omega
          have D := Lib.hid (show (decide (au.size = 32) && decide (bo.size ≤ 200)) = true by simp [h32, h200])
          go_wp2
          go_ret
          exact ⟨ret_b (by have := D.out; simp at this; simp [this]), B2.out⟩
        · have d1 : decide ((bo.size : Int) ≤ 200) = false := by simp; omega
          have d0 : ((au.size : Int) == 32) = true := by simp; omega
          have D := Lib.hid h200
          go_wp2
          go_ret
          exact ⟨ret_b (by simp [D.out]), B2.out⟩
      · have d0 : ((au.size : Int) == 32) = false := by simp; omega
        have D := Lib.hid h32
        go_wp2
        go_ret
        exact ⟨ret_b (by simp [D.out]), B2.out⟩
end Go.Proofs.YtggfmnmopfdiaaaGreatDoor
