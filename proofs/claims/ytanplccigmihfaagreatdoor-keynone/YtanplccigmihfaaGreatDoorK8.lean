/-
  The law's own: awake, long, small; of no key there is nothing.
-/
import Derived.Test.YtanplccigmihfaaGreatDoorK6
import Derived.Test.YtanplccigmihfaaGreatDoorK7
import Derived.Test.YtanplccigmihfaaGreatDoorWL
namespace Go.Proofs.YtanplccigmihfaaGreatDoor
open Go.RowKit Go.Pal

theorem public_nil (w : World) :
    Calls Tryz.prog 13 #[.pointer none] w fun e w' => e = .returned (.string ⟨#[]⟩) ∧ w = w' := by
  go_enter Tryz.func13, Tryz.ntmps13
  go_wp2
  go_ret
  exact ⟨rfl, rfl⟩
theorem used_nil (w : World) :
    Calls Tryz.prog 15 #[.pointer none] w fun e w' => e = .returned (.int .i64 0) ∧ w = w' := by
  go_enter Tryz.func15, Tryz.ntmps15
  go_wp2
  go_ret
  exact ⟨rfl, rfl⟩
theorem left_nil5 (w : World) :
    Calls Tryz.prog 16 #[.pointer none] w fun e w' => e = .returned (.int .i64 0) ∧ w = w' := by
  go_enter Tryz.func16, Tryz.ntmps16
  go_wp2
  go_ret
  exact ⟨rfl, rfl⟩
theorem long5 (s : ByteArray) (w : World) :
    Calls Tryz.prog 10 #[.string s] w fun e w' => e = .returned (.bool (decide (300 < s.size))) ∧ w = w' := by
  go_enter Tryz.func10, Tryz.ntmps10
  go_wp2
  go_ret
  exact ⟨by first | rfl | (congr 2; simp; omega) | simp, rfl⟩
/-- A height made one from 0 to 2. -/
def smallN (h : Int) : Nat := ((h % 18446744073709551616) % 3).toNat
theorem smallN_le (h : Int) : smallN h ≤ 2 := by unfold smallN; omega
theorem small5 (h : Int) (w : World) :
    Calls Tryz.prog 17 #[.int .i64 h] w fun e w' => e = .returned (.int .i64 (smallN h : Int)) ∧ w = w' := by
  have e2 : IntKind.u64.wrap h = h % 18446744073709551616 := by rw [IntKind.wrap_u64]
  have e1 : ((h % 18446744073709551616).tmod 3) = (smallN h : Int) := by
    rw [Int.tmod_eq_emod_of_nonneg (by omega), smallN]; omega
  have e3 : IntKind.u64.wrap (smallN h : Int) = (smallN h : Int) := by have := smallN_le h; rw [IntKind.wrap_u64]; omega
  have e4 : IntKind.i64.wrap (smallN h : Int) = (smallN h : Int) := by have := smallN_le h; rw [IntKind.wrap_i64]; omega
  go_enter Tryz.func17, Tryz.ntmps17
  go_wp2
  go_ret
  exact ⟨rfl, rfl⟩

set_option maxHeartbeats 2000000 in
set_option maxRecDepth 100000 in
theorem awake5 (w : World) (ht : Tabs w) :
    Calls Tryz.prog 11 #[] w fun e w' => e = .returned (.bool true) ∧ Below w.heap.size w w' := by
  have hn := new_yes w ⟨#[115]⟩ 0 0 (by omega) (by decide) (by decide)
  rw [show ((0 : Nat) : Int) = 0 from rfl] at hn
  have HN := Lib.hid hn
  have hrs := fun W => refsign5 W ⟨#[115]⟩ 0 0 ⟨#[109]⟩ (by omega) (by decide) (by decide) (by decide)
  rw [show ((0 : Nat) : Int) = 0 from rfl] at hrs
  have HRS := Lib.hid hrs
  have hz : (sigB ⟨#[115]⟩ 0 0 ⟨#[109]⟩).size = 2146 := sigB_size _ 0 0 _ (by decide)
  have HT := Lib.hid ht
  clear hn ht hrs
  go_enter Tryz.func11, Tryz.ntmps11
  go_wp2_with fail
  refine HN.out.mono ?_
  rintro e w1 ⟨⟨b, rfl, k1, hb⟩, b1⟩
  have HS1 := Lib.hid (sign_any w1 b ⟨#[115]⟩ 0 0 ⟨#[109]⟩ (by omega) (by decide) (by decide) (by decide) (TabsK.of HT.out b1 hb) (.inl k1))
  have B1 := Lib.hid b1
  clear k1 b1
  generalize sigB ⟨#[115]⟩ 0 0 ⟨#[109]⟩ = S at *
  go_wp2_with fail
  refine HS1.out.mono ?_
  rintro e w2 ⟨rfl, k2, g2⟩
  have HS2 := Lib.hid (sign_spent w2 b ⟨#[115]⟩ 0 ⟨#[109]⟩ (by omega) (.inr k2))
  have B2 := Lib.hid (B1.out.grown g2 B1.out.size (fun k hk => by cases hk; exact hb))
  have K2 := Lib.hid k2
  clear k2 g2 HS1
  go_wp2_with fail
  refine HS2.out.mono ?_
  rintro e w3 ⟨rfl, rfl⟩
  have hlf := fun (W : World) (hB : Below w2.heap.size w2 W) => left_any5 W b ⟨#[115]⟩ 0 1 (by omega) (by decide) (.inr (K2.out.below hB))
  rw [show ((2 ^ 0 - 1 : Nat) : Int) = 0 from rfl] at hlf
  have HLF := Lib.hid hlf
  clear hlf
  go_wp2_with (first | (go_at_call 20; refine (HRS.out _).mono ?_; rintro e w4 ⟨rfl, b4⟩) | (go_at_call 16; refine (HLF.out _ b4).mono ?_; rintro e w5 ⟨rfl, rfl⟩))
  go_ret
  exact ⟨rfl, B2.out.trans (b4.mono B2.out.size)⟩
end Go.Proofs.YtanplccigmihfaaGreatDoor
