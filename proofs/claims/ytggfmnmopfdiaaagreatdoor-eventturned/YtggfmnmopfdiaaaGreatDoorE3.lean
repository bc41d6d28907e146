/-
  Contracts of the document's own Right, Content, Encode of layer 6.
-/
import Derived.Test.YtggfmnmopfdiaaaGreatDoorE2
import Derived.Deep.RegionHeld3
namespace Go.Proofs.YtggfmnmopfdiaaaGreatDoor
open Go.RowKit Go.Pal Go.Pal.Fr Go.Pal.Ev

theorem evKind_true {k : Int} {n z : Nat} (h : evKind k n z = true) : (k = 1 ∧ n = 0) ∨ ((k = 2 ∨ k = 3) ∧ n ≠ 0) ∨ (k = 4 ∧ n ≠ 0 ∧ z = 32) ∨ (k = 5 ∧ n ≠ 0 ∧ z = 32) := by
  obtain ⟨k1, k5⟩ := kind_range h
  have h7 : k = 1 ∨ k = 2 ∨ k = 3 ∨ k = 4 ∨ k = 5 := by omega
  rcases h7 with rfl | rfl | rfl | rfl | rfl <;> simp [evKind] at h <;> omega
theorem evKind_false {k : Int} {n z : Nat} (h : evKind k n z = false) (k1 : 1 ≤ k) (k5 : k ≤ 5) : (k = 1 ∧ n ≠ 0) ∨ (k ≠ 1 ∧ n = 0) ∨ (k = 4 ∧ n ≠ 0 ∧ z ≠ 32) ∨ (k = 5 ∧ n ≠ 0 ∧ z ≠ 32) := by
  have h7 : k = 1 ∨ k = 2 ∨ k = 3 ∨ k = 4 ∨ k = 5 := by omega
  rcases h7 with rfl | rfl | rfl | rfl | rfl <;> simp [evKind] at h <;> omega

set_option maxHeartbeats 4000000 in
theorem refright_any (w : World) (e : E) (a : Option Addr) (c : Nat) (h : StrRow w a e.parents) (hl : e.parents.length ≤ maxLen) (hs : ∀ i, (at' e.parents i).size ≤ maxLen) (hb : e.body.size ≤ maxLen) :
    Calls Tryz.prog 10 #[evV e a c] w fun r w' => r = .returned (.bool (evOk e)) ∧ Below w.heap.size w w' := by
  obtain ⟨kd, au, l, bo, sg⟩ := e
  unfold evV
  simp only at h hl hs hb ⊢
  unfold maxLen at hl hs hb
  by_cases hc : 1 ≤ kd ∧ kd ≤ 5 ∧ au.size = 32 ∧ l.length ≤ 8 ∧ bo.size ≤ 200 ∧ sg.size ≤ 65535
  case neg =>
    have hf : evOk ⟨kd, au, l, bo, sg⟩ = false := by
      cases h1 : evOk ⟨kd, au, l, bo, sg⟩
      · rfl
      · obtain ⟨h1, h2, h3, h4, h5, h6⟩ := evOk_all h1
        obtain ⟨k1, k5⟩ := kind_range h1
        exact absurd ⟨k1, k5, h4, h2, h5, h6⟩ hc
    rw [hf]
    clear hf h hs
    have h0 : kd < 1 ∨ (1 ≤ kd ∧ 5 < kd) ∨ (1 ≤ kd ∧ kd ≤ 5 ∧ au.size ≠ 32) ∨ (1 ≤ kd ∧ kd ≤ 5 ∧ au.size = 32 ∧ 8 < l.length) ∨ (1 ≤ kd ∧ kd ≤ 5 ∧ au.size = 32 ∧ l.length ≤ 8 ∧ 200 < bo.size) ∨ (1 ≤ kd ∧ kd ≤ 5 ∧ au.size = 32 ∧ l.length ≤ 8 ∧ bo.size ≤ 200 ∧ 65535 < sg.size) := by omega
    clear hc
    rcases h0 with h1 | ⟨h1, h2⟩ | ⟨h1, h2, h3⟩ | ⟨h1, h2, h3, h4⟩ | ⟨h1, h2, h3, h4, h5⟩ | ⟨h1, h2, h3, h4, h5, h6⟩
    all_goals
      try have d1 : decide (kd < 1) = true := decide_eq_true (by omega)
      try have d1 : decide (kd < 1) = false := decide_eq_false (by omega)
      try have d2 : decide (5 < kd) = true := decide_eq_true (by omega)
      try have d2 : decide (5 < kd) = false := decide_eq_false (by omega)
      try have d3 : ((au.size : Int) != 32) = true := by simp; omega
      try have d3 : ((au.size : Int) != 32) = false := by simp; omega
      try have d4 : decide (8 < (l.length : Int)) = true := decide_eq_true (by omega)
      try have d4 : decide (8 < (l.length : Int)) = false := decide_eq_false (by omega)
      try have d5 : decide (200 < (bo.size : Int)) = true := decide_eq_true (by omega)
      try have d5 : decide (200 < (bo.size : Int)) = false := decide_eq_false (by omega)
      try have d6 : decide (65535 < (sg.size : Int)) = true := decide_eq_true (by omega)
      go_enter Tryz.func10, Tryz.ntmps10
      go_wp2
      go_ret
      exact ⟨rfl, alloc_below w _⟩
  obtain ⟨h1, h2, h3, h4, h5, h6⟩ := hc
  have hok : evOk ⟨kd, au, l, bo, sg⟩ = (evKind kd l.length bo.size && idsOk l) := by simp [evOk, parOk, h3, h4, h5, h6]
  rw [hok]
  have d1 : decide (kd < 1) = false := decide_eq_false (by omega)
  have d2 : decide (5 < kd) = false := decide_eq_false (by omega)
  have d3 : ((au.size : Int) != 32) = false := by simp; omega
  have d4 : decide (8 < (l.length : Int)) = false := decide_eq_false (by omega)
  have d5 : decide (200 < (bo.size : Int)) = false := decide_eq_false (by omega)
  have d6 : decide (65535 < (sg.size : Int)) = false := decide_eq_false (by omega)
  by_cases hk : evKind kd l.length bo.size = true
  case neg =>
    have hf : evKind kd l.length bo.size = false := by simpa using hk
    rw [hf]
    have h0 := evKind_false hf h1 h2
    clear hk hf hok hs h
    rcases h0 with ⟨g1, g2⟩ | ⟨g1, g2⟩ | ⟨g1, g2, g3⟩ | ⟨g1, g2, g3⟩
    all_goals
      try have f1 : (kd == 1) = true := beq_iff_eq.2 (by omega)
      try have f1 : (kd == 1) = false := beq_eq_false_iff_ne.2 (by omega)
      try have f2 : ((l.length : Int) == 0) = true := beq_iff_eq.2 (by omega)
      try have f2 : ((l.length : Int) == 0) = false := beq_eq_false_iff_ne.2 (by omega)
      try have f4 : (kd == 4) = true := beq_iff_eq.2 (by omega)
      try have f4 : (kd == 4) = false := beq_eq_false_iff_ne.2 (by omega)
      try have f5 : (kd == 5) = true := beq_iff_eq.2 (by omega)
      try have f32 : ((bo.size : Int) != 32) = true := by simp; omega
      clear g1 g2
      go_enter Tryz.func10, Tryz.ntmps10
      go_wp2
      go_ret
      exact ⟨rfl, alloc_below w _⟩
  rw [hk, Bool.true_and]
  have h0 := evKind_true hk
  have H := Lib.hid h
  have HS := Lib.hid hs
  clear h hs hk hok
  rcases h0 with ⟨g1, g2⟩ | ⟨g1, g2⟩ | ⟨g1, g2, g3⟩ | ⟨g1, g2, g3⟩
  all_goals
    try have f1 : (kd == 1) = true := beq_iff_eq.2 (by omega)
    try have f1 : (kd == 1) = false := beq_eq_false_iff_ne.2 (by omega)
    try have f2 : ((l.length : Int) == 0) = true := beq_iff_eq.2 (by omega)
    try have f2 : ((l.length : Int) == 0) = false := beq_eq_false_iff_ne.2 (by omega)
    try have f4 : (kd == 4) = true := beq_iff_eq.2 (by omega)
    try have f4 : (kd == 4) = false := beq_eq_false_iff_ne.2 (by omega)
    try have f5 : (kd == 5) = true := beq_iff_eq.2 (by omega)
    try have f5 : (kd == 5) = false := beq_eq_false_iff_ne.2 (by omega)
    try have f32 : ((bo.size : Int) != 32) = false := by simp; omega
    clear g1 g2
    try clear g3
    go_enter Tryz.func10, Tryz.ntmps10
    go_wp2
    clear f1 f2 f4 d1 d2 d3 d4 d5 d6
    try clear f5
    try clear f32
    go_loopw [3] (fun i wr => ∃ k : Nat, k ≤ l.length ∧ i = .int .i64 k ∧ (∀ j, j < k → riseAt l j = true) ∧ Same (w.alloc (.cells #[.int .i64 kd, .string au, .slice a l.length c, .string bo, .string sg] 24)) wr) (fun i _ => l.length - (intOf i).toNat)
    case atStart => exact ⟨0, by omega, rfl, fun j hj => by omega, Same.refl _⟩
    case round =>
      obtain ⟨k, hk, rfl, hup, hsm⟩ := hrel
      obtain ⟨c0, c1, c2, c3, c4⟩ := box_cells (sameB hsm)
      by_cases hlt : k < l.length
      · obtain ⟨b1, o1, rfl, _⟩ := row_some H.out (by omega)
        have r1 := (hsm.cell _).trans (row_cell (H.out.below (alloc_below w _)) k hlt)
        have hz := HS.out k
        have HSM := Lib.hid hsm
        have HUP := Lib.hid hup
        clear hsm hup c0 c1 c3 c4
        by_cases h32 : (at' l k).size = 32
        · have z1 : (((at' l k).size : Int) != 32) = false := by simp; omega
          by_cases h0 : k = 0
          · subst h0
            have hr : riseAt l 0 = true := by simp [riseAt, h32]
            have HR := Lib.hid hr
            rw [Nat.add_zero] at r1
            clear hr
            generalize at' l 0 = x at *
            go_wp2
            go_quiet (fail)
            go_wp2
            go_roundw
            case rel => exact ⟨1, by omega, by go_num, fun j hj => by obtain rfl : j = 0 := by omega
                                                                      exact HR.out, HSM.out.drewN _⟩
            case measure => simp [intOf]; omega
          · have r2 := (HSM.out.cell _).trans (row_cell (H.out.below (alloc_below w _)) (k - 1) (by omega))
            have hk1 : (1 : Int) ≤ (k : Int) := by omega
            have dk : (0 : Int) < (k : Int) := by omega
            have dn : 0 < k := by omega
            have wk : IntKind.i64.wrap ((k : Int) - 1) = (k : Int) - 1 := by rw [IntKind.wrap_i64]; omega
            have hr : riseAt l k = Op.bytesLess (at' l (k - 1)).toList (at' l k).toList := by simp [riseAt, h32, h0]
            have HR := Lib.hid hr
            have ht := less_trich (at' l (k - 1)).toList (at' l k).toList
            clear hr
            generalize at' l k = x at *
            generalize at' l (k - 1) = y at *
            cases hlss : Op.bytesLess y.toList x.toList
            · have HLS := Lib.hid hlss
              rw [hlss, Bool.not_false] at ht
              clear hlss
              go_wp2
              go_quiet (fail)
              go_wp2
              go_ret
              exact ⟨by rw [idsOk_false hlt (HR.out.trans HLS.out)]; rfl, (alloc_below w _).trans ((sameB (HSM.out.drewN _)).mono (alloc_below w _).size)⟩
            · have HLS := Lib.hid hlss
              rw [hlss, Bool.not_true] at ht
              clear hlss
              go_wp2
              go_quiet (fail)
              go_wp2
              go_roundw
              case rel => exact ⟨k + 1, by omega, by go_num, fun j hj => by by_cases hj2 : j < k
                                                                            · exact HUP.out j hj2
                                                                            · obtain rfl : j = k := by omega
                                                                              exact HR.out.trans HLS.out, HSM.out.drewN _⟩
              case measure => simp [intOf]; omega
        · have z1 : (((at' l k).size : Int) != 32) = true := by simp; omega
          have hr : riseAt l k = false := by simp [riseAt, h32]
          have HR := Lib.hid hr
          clear hr
          generalize at' l k = x at *
          go_wp2
          go_quiet (fail)
          go_wp2
          go_ret
          exact ⟨by rw [idsOk_false hlt HR.out]; rfl, (alloc_below w _).trans ((sameB (HSM.out.drewN _)).mono (alloc_below w _).size)⟩
      · have e2 : idsOk l = true := idsOk_true fun i hi => hup i (by omega)
        have HE := Lib.hid e2
        have HSM := Lib.hid hsm
        clear hsm hup e2
        obtain rfl : k = l.length := by omega
        go_wp2
        go_ret
        exact ⟨by rw [HE.out]; rfl, (alloc_below w _).trans ((sameB HSM.out).mono (alloc_below w _).size)⟩
end Go.Proofs.YtggfmnmopfdiaaaGreatDoor
