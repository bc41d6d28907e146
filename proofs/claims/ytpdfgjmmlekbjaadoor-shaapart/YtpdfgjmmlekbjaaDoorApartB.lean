/-
  The walk of ShaApart.
-/
import Derived.Test.YtpdfgjmmlekbjaaDoorApartA
namespace Go.Proofs.YtpdfgjmmlekbjaaDoor.ShaApart
open Go.RowKit Go.Pal

set_option maxHeartbeats 1000000 in
theorem walk_main (a b : Nat) (ha : a < 256) (hb : b < 256) (x y : Option Addr) (c d : Nat) (ps qs : List ByteArray) (w : World) (hx : StrRow w x ps) (hy : StrRow w y qs) (hlx : ps.length ≤ maxLen) (hly : qs.length ≤ maxLen) (hzx : ∀ s ∈ ps, s.size ≤ maxLen) (hzy : ∀ s ∈ qs, s.size ≤ maxLen) (ht : Tabs w) :
    Calls Tryd.prog 5 #[.int .u8 a, .int .u8 b, .slice x ps.length c, .slice y qs.length d] w fun e w' => e = .returned (.bool true) ∧ Below w.heap.size w w' := by
  have HZ := Lib.hid (size_any w x c ps hx hlx hzx)
  have HZ2 := Lib.hid (size_any w y d qs hy hly hzy)
  have HT := Lib.hid ht
  have HX := Lib.hid hx
  have HY := Lib.hid hy
  unfold maxLen at hlx hly
  clear ht hx hy hzx hzy
  go_enter Tryd.func5, Tryd.ntmps5
  go_wp2_with fail
  refine HZ.out.mono ?_
  rintro e w1 ⟨⟨n, rfl, hn, hsm⟩, rfl⟩
  by_cases h1 : 2000 < n
  · have hd : decide (2000 < (n : Int)) = true := by simp; omega
    clear hsm
    go_wp2_with fail
    refine (awake_any _ HT.out).mono ?_
    rintro e w1 ⟨rfl, b1⟩
    go_wp2
    go_ret
    exact ⟨rfl, b1⟩
  have hd1 : decide (2000 < (n : Int)) = false := by simp; omega
  obtain ⟨hp, hp2⟩ := hsm (by omega)
  have HP := Lib.hid hp
  clear hp hsm
  go_wp2_with fail
  refine HZ2.out.mono ?_
  rintro e w1 ⟨⟨m, rfl, hm, hsm⟩, rfl⟩
  by_cases h2 : 2000 < m
  · have hd : decide (2000 < (m : Int)) = true := by simp; omega
    clear hsm
    go_wp2_with fail
    refine (awake_any _ HT.out).mono ?_
    rintro e w1 ⟨rfl, b1⟩
    go_wp2
    go_ret
    exact ⟨rfl, b1⟩
  have hd2 : decide (2000 < (m : Int)) = false := by simp; omega
  obtain ⟨hq, hq2⟩ := hsm (by omega)
  have HQ := Lib.hid hq
  clear hq hsm HZ HZ2
  have hE1 : ((a : Int) == (b : Int)) = decide (a = b) := by rw [Bool.eq_iff_iff, beq_iff_eq, decide_eq_true_eq]; omega
  have hE2 : ((ps.length : Int) == (qs.length : Int)) = decide (ps.length = qs.length) := by rw [Bool.eq_iff_iff, beq_iff_eq, decide_eq_true_eq]; omega
  have h0 : sameTo a b ps qs 0 = (decide (a = b) && decide (ps.length = qs.length)) := by
    rw [Bool.eq_iff_iff, Bool.and_eq_true, decide_eq_true_eq, decide_eq_true_eq]
    simp only [sameTo, List.take_zero, and_true, decide_eq_true_eq]
  rw [← hE1, ← hE2] at h0
  have H0 := Lib.hid h0
  have hab : ((a : Int) == (b : Int)) = true ∨ ((a : Int) == (b : Int)) = false := by cases ((a : Int) == (b : Int)) <;> simp
  clear h0 hE1 hE2
  rcases hab with hab | hab
  all_goals
    go_wp2
    go_loopw [9, 10] (fun v i wr => ∃ k : Nat, ∃ sm : Bool, k ≤ ps.length ∧ i = .int .i64 k ∧ v = .bool sm ∧ sm = sameTo a b ps qs k ∧ Same w wr) (fun _ i _ => ps.length - (intOf i).toNat)
    case atStart => exact ⟨0, _, Nat.zero_le _, rfl, rfl, by rw [H0.out, hab]; rfl, Same.refl w⟩
    case round =>
      obtain ⟨k, sm, hk, rfl, rfl, hsm, hsame⟩ := hrel
      clear hab H0
      by_cases hgo : k < ps.length ∧ sm = true
      · obtain ⟨hlt, rfl⟩ := hgo
        have hlq : k < qs.length := by
          have := hsm.symm
          simp only [sameTo, decide_eq_true_eq] at this
          omega
        have hst := sameTo_step a b ps qs k hlt hsm.symm
        rcases HX.out with e0 | ⟨bx, ox, rfl, hbx, hcx⟩
        · rw [e0] at hlt; simp at hlt
        rcases HY.out with e0 | ⟨by', oy, rfl, hby, hcy⟩
        · rw [e0] at hlq; simp at hlq
        have c1 := (hsame.cell _).trans (hcx k hlt)
        have c2 := (hsame.cell _).trans (hcy k hlq)
        have HST := Lib.hid hst
        have HSAME := Lib.hid hsame
        generalize ps.getD k ByteArray.empty = p at *
        generalize qs.getD k ByteArray.empty = q at *
        clear hst hsame hsm hcx hcy
        go_wp2
        go_quiet (fail)
        go_wp2
        go_roundw
        case rel => exact ⟨k + 1, _, by omega, by go_num, rfl, HST.out.symm, HSAME.out.drewN _⟩
        case measure => simp [intOf]; omega
      · have hend : sm = decide (a = b ∧ ps = qs) := by
          rw [hsm]
          apply sameTo_end
          by_cases hk2 : k < ps.length
          · right
            rw [← hsm]
            cases sm
            · rfl
            · exact absurd ⟨hk2, rfl⟩ hgo
          · left; omega
        have heq := eq_inputs a b ha hb ps qs (by have := HP.out; omega) (by have := HQ.out; omega)
        rw [← hend] at heq
        have hin1 := input_any wr a x c ps (HX.out.below (hsame.below _)) (by have := HP.out; omega) (by omega)
        have hin2 := fun w' (h : StrRow w' y qs) => input_any w' b y d qs h (by have := HQ.out; omega) (by omega)
        generalize (⟨(inputL (a : Int) ps).toArray⟩ : ByteArray) = X at *
        generalize (⟨(inputL (b : Int) qs).toArray⟩ : ByteArray) = Y at *
        have HI1 := Lib.hid hin1
        have HI2 := Lib.hid hin2
        have HSAME := Lib.hid (hsame.below w.heap.size)
        have hcase : (k < ps.length ∧ sm = false) ∨ k = ps.length := by
          by_cases h : k < ps.length
          · left; refine ⟨h, ?_⟩; cases sm
            · rfl
            · exact absurd ⟨h, rfl⟩ hgo
          · right; omega
        clear hin1 hin2 hsame hsm hend hgo
        rcases hcase with ⟨hlt, rfl⟩ | rfl
        all_goals
          go_wp2_with fail
          refine HI1.out.mono ?_
          rintro e w2 ⟨rfl, b2⟩
          have c2 := HSAME.out.trans (b2.mono HSAME.out.size)
          have C2 := Lib.hid c2
          clear b2 c2
          go_wp2_with fail
          refine (HI2.out _ (HY.out.below C2.out)).mono ?_
          rintro e w3 ⟨rfl, b3⟩
          have c3 := C2.out.trans (b3.mono C2.out.size)
          have C3 := Lib.hid c3
          clear b3 c3
          go_wp2_with fail
          refine (awake_any _ (HT.out.below C3.out)).mono ?_
          rintro e w4 ⟨rfl, b4⟩
          go_wp2
          go_ret
          exact ⟨rfl, C3.out.trans (b4.mono C3.out.size)⟩

end Go.Proofs.YtpdfgjmmlekbjaaDoor.ShaApart
