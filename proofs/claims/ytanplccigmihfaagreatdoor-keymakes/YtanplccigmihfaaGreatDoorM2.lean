/-
  Contracts of merkle: areLeaves, Root, Path; of the document's May; of the law's own awake and long.
-/
import Derived.Test.YtanplccigmihfaaGreatDoorM1
import Derived.Deep.AppendLies
namespace Go.Proofs.YtanplccigmihfaaGreatDoor
open Go.RowKit Go.Pal

set_option maxHeartbeats 400000 in
theorem leaves_any (w : World) (a : Option Addr) (n cap : Nat) (hn : n ≤ maxLen) :
    Calls Tryz.prog 77 #[.slice a n cap] w fun e w' => e = .returned (.bool (mayB n)) ∧ w = w' := by
  unfold maxLen at hn
  by_cases h0 : n = 0
  · subst h0
    go_enter Tryz.func77, Tryz.ntmps77
    go_wp2
    go_ret
    exact ⟨rfl, rfl⟩
  by_cases h1 : n ≤ 16
  · have ha := and_may n (by omega)
    have hz : (n == 0) = false := by simpa using h0
    rw [hz, Bool.or_false] at ha
    have hp : 0 < n := by omega
    generalize mayB n = m at *
    clear hz
    go_enter Tryz.func77, Tryz.ntmps77
    go_wp2
    go_ret
    exact ⟨rfl, rfl⟩
  · have hm : mayB n = false := by
      cases h : mayB n
      · rfl
      · obtain ⟨H, h2, h3⟩ := may_pow n h
        have := pow_le16 H h2
        omega
    rw [hm]
    have hp : 0 < n := by omega
    have hp2 : 16 < n := by omega
    go_enter Tryz.func77, Tryz.ntmps77
    go_wp2
    go_ret
    exact ⟨rfl, rfl⟩


/-- How long a slice in a slot is. -/
def sliceLen : Value → Nat | .slice _ n _ => n | _ => 0

set_option maxHeartbeats 400000 in
theorem root_no (w : World) (a : Option Addr) (n cap : Nat) (hn : n ≤ maxLen) (h : mayB n = false) :
    Calls Tryz.prog 66 #[.slice a n cap] w fun e w' => e = .returned (.tuple #[.string ⟨#[]⟩, .bool false]) ∧ w = w' := by
  have HL := Lib.hid (leaves_any w a n cap hn)
  rw [h] at HL
  clear h
  go_enter Tryz.func66, Tryz.ntmps66
  go_wp2_with fail
  refine HL.out.mono ?_
  rintro e w1 ⟨rfl, rfl⟩
  go_wp2
  go_ret2
  exact ⟨rfl, rfl⟩

set_option maxHeartbeats 1000000 in
theorem root_yes (w : World) (a : Option Addr) (cap : Nat) (ss : List ByteArray) (H : Nat) (hH : H ≤ 4) (hlen : ss.length = 2 ^ H) (hss : StrRow w a ss) (hsm : SmallL ss) (ht : Tabs w) :
    Calls Tryz.prog 66 #[.slice a ss.length cap] w fun e w' => e = .returned (.tuple #[.string ((rowN H ss).getD 0 ByteArray.empty), .bool true]) ∧ Below w.heap.size w w' := by
  have h16 := pow_le16 H hH
  have HL := Lib.hid (leaves_any w a ss.length cap (by unfold maxLen; omega))
  rw [show mayB ss.length = true by rw [hlen]; exact pow_may H hH] at HL
  have HN := Lib.hid (fun k hk => rowN_pow ss H k hlen hk)
  have HSM := Lib.hid (smallL_n ss hsm)
  have HT := Lib.hid ht
  have HSS := Lib.hid hss
  clear hss hsm ht hlen h16
  go_enter Tryz.func66, Tryz.ntmps66
  go_wp2_with fail
  refine HL.out.mono ?_
  rintro e w1 ⟨rfl, rfl⟩
  clear HL
  go_wp2
  go_loopw [4] (fun v wr => ∃ k : Nat, ∃ a2 : Option Addr, ∃ c2 : Nat, k ≤ H ∧ v = .slice a2 (rowN k ss).length c2 ∧ StrRow wr a2 (rowN k ss) ∧ Below w.heap.size w wr) (fun v _ => sliceLen v)
  case atStart => exact ⟨0, a, cap, by omega, rfl, HSS.out, Below.refl _ _⟩
  case round =>
    clear HSS
    obtain ⟨k, a2, c2, hk, rfl, hrow, hb⟩ := hrel
    have hlk := HN.out k hk
    by_cases hlt : k < H
    · have h2 := pow_ge2 (H - k) (by omega)
      have h16 := pow_le16 (H - k) (by omega)
      have hl2 := rowUp_length (rowN k ss)
      have habove := above_any wr a2 c2 (rowN k ss) hrow (by omega) (HSM.out k) (HT.out.below hb)
      have hnx : rowN (k + 1) ss = rowUp (rowN k ss) := rfl
      generalize rowN k ss = R at *
      generalize hU : rowN (k + 1) ss = U at *
      rw [← hnx] at habove hl2
      have HU := Lib.hid hU
      have HA := Lib.hid habove
      have HB := Lib.hid hb
      have h1 : 1 < R.length := by omega
      have hUl : U.length < R.length := by omega
      have HUL := Lib.hid hUl
      clear hU habove hb hnx hrow hlk h2 h16 hl2 hUl
      go_wp2_with fail
      refine HA.out.mono ?_
      rintro e w2 ⟨rfl, r2, _, b2⟩
      have C2 := Lib.hid (HB.out.trans (b2.mono HB.out.size))
      have HR2 := Lib.hid r2
      clear b2 r2
      go_wp2
      go_roundw
      case rel => exact ⟨k + 1, _, _, by omega, by rw [HU.out], by rw [HU.out]; exact HR2.out, C2.out⟩
      case measure => simp only [sliceLen]; exact HUL.out
    · obtain rfl : k = H := by omega
      rw [Nat.sub_self] at hlk
      have hl1 : (rowN k ss).length = 1 := hlk
      rcases hrow with h0 | ⟨b, off, rfl, hbl, hc⟩
      · rw [h0] at hl1; simp at hl1
      have c0 := hc 0 (by omega)
      rw [Nat.add_zero] at c0
      have hsz := HSM.out k 0
      rw [hl1]
      generalize hX : (rowN k ss).getD 0 ByteArray.empty = X at *
      have HX := Lib.hid hX
      have HB := Lib.hid hb
      clear hb hc hl1 hlk hX
      go_wp2_with fail
      refine (clone_any X _ (by omega)).mono ?_
      rintro e w2 ⟨rfl, b2⟩
      have C2 := Lib.hid (HB.out.trans (b2.mono HB.out.size))
      clear b2
      go_wp2
      go_ret2
      rw [HX.out]
      exact ⟨rfl, C2.out⟩

end Go.Proofs.YtanplccigmihfaaGreatDoor
