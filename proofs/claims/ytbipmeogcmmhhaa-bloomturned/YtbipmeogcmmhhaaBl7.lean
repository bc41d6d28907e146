/-
  Contracts of Has: the program's and the document's.
-/
import Derived.Test.YtbipmeogcmmhhaaBl5
namespace Go.Pal
open Go.RowKit
/-- Is the place of number c set? -/
def testB (s id : ByteArray) (m : Nat) (c : Nat) : Bool := bitT (s.data.toList.getD (placeB id m c / 8) 0).toNat (placeB id m c % 8)
theorem hasB_none {s id : ByteArray} (h : placedB id (8 * s.size : Nat) = false) : hasB s id = false := by unfold hasB; rw [h]; rfl
theorem hasB_eq {s id : ByteArray} {m : Nat} (hm : m = 8 * s.size) (h : placedB id (m : Int) = true) : hasB s id = (testB s id m 0 && (testB s id m 1 && (testB s id m 2 && testB s id m 3))) := by
  subst hm
  unfold hasB
  rw [h, placesB_yes h]
  simp only [List.all_cons, List.all_nil, Bool.and_true, Bool.true_and]
  rfl
theorem hasB_bad {s id : ByteArray} {m : Nat} (hm : m = 8 * s.size) (h : placedB id (m : Int) = true) (c : Nat) (hc : c < 4) (ht : testB s id m c = false) : hasB s id = false := by
  rw [hasB_eq hm h]
  match c, hc with
  | 0, _ => rw [ht]; rfl
  | 1, _ => rw [ht]; simp
  | 2, _ => rw [ht]; simp
  | 3, _ => rw [ht]; simp
theorem hasB_good {s id : ByteArray} {m : Nat} (hm : m = 8 * s.size) (h : placedB id (m : Int) = true) (ht : ∀ i, i < 4 → testB s id m i = true) : hasB s id = true := by
  rw [hasB_eq hm h, ht 0 (by omega), ht 1 (by omega), ht 2 (by omega), ht 3 (by omega)]; rfl
end Go.Pal
namespace Go.Proofs.Ytbipmeogcmmhhaa
open Go.RowKit Go.Pal
set_option linter.unusedVariables false
theorem shr_cast (x r : Nat) : (x : Int) / 2 ^ r = ((x / 2 ^ r : Nat) : Int) := by
  rw [Int.natCast_ediv]; simp
theorem bit_mod {x r : Nat} {b : Bool} (h : bitT x r = b) : x / 2 ^ r % 2 = b.toNat := by
  have h2 : x / 2 ^ r % 2 < 2 := Nat.mod_lt _ (by decide)
  unfold bitT at h
  generalize x / 2 ^ r % 2 = y at *
  subst h
  match y, h2 with
  | 0, _ => rfl
  | 1, _ => rfl
theorem test_and {x r : Nat} {b : Bool} (hx : x < 256) (h : bitT x r = b) : bits .and .u8 ((x : Int) / 2 ^ r) 1 = (b.toNat : Int) := by
  have h1 : x / 2 ^ r < 256 := Nat.lt_of_le_of_lt (Nat.div_le_self _ _) hx
  rw [shr_cast, show (1 : Int) = ((1 : Nat) : Int) from rfl, (bits_nat .u8 8 (by decide) (fun n h0 h1 => by rw [IntKind.wrap_u8]; omega) _ _ h1 (by decide)).1, Nat.and_one_is_mod, bit_mod h]
theorem test_mod {x r : Nat} {b : Bool} (hx : x < 256) (h : bitT x r = b) : ((x : Int) / 2 ^ r).tmod 2 = (b.toNat : Int) := by
  rw [shr_cast]
  show ((x / 2 ^ r % 2 : Nat) : Int) = _
  rw [bit_mod h]

set_option maxHeartbeats 4000000 in
set_option maxRecDepth 100000 in
theorem has_any (s id : ByteArray) (hs : s.size ≤ 1000000) (w : World) :
    Calls Try.prog 45 #[.string s, .string id] w fun e w' => e = .returned (.bool (hasB s id)) ∧ Below w.heap.size w w' := by
  obtain ⟨m, hm⟩ : ∃ m, m = 8 * s.size := ⟨_, rfl⟩
  have hw8 : wrap64 (8 * (s.size : Int)) = (m : Int) := by rw [w64 _ (by omega) (by omega)]; omega
  cases hpl : placedB id (m : Int) with
  | false =>
    have HNO := Lib.hid (fun W => places_no id m hpl W)
    have HH := Lib.hid (hasB_none (by rw [← hm]; exact hpl))
    clear hpl hm hs
    go_enter Try.func45, Try.ntmps45
    go_wp2_with (go_at_call 38; refine (HNO.out _).mono ?_; rintro e w1 ⟨rfl, rfl⟩)
    refine wp_loop_rounds 1 ?_
    rw [rounds_succ]
    go_wp2
    go_ret
    exact ⟨by rw [HH.out]; rfl, Below.refl _ _⟩
  | true =>
    have h' : id.size = 32 ∧ 1 ≤ (m : Int) ∧ (m : Int) ≤ 4096 := of_decide_eq_true hpl
    have HYES := Lib.hid (fun W => places_yes id m h'.1 (by omega) (by omega) W)
    have HLT := Lib.hid (fun c => placeB_lt id m c (by omega))
    have HBAD := Lib.hid (hasB_bad hm hpl)
    have HGOOD := Lib.hid (hasB_good hm hpl)
    have HM := Lib.hid hm
    have HS := Lib.hid hs
    clear hpl h' hm hs
    go_enter Try.func45, Try.ntmps45
    go_wp2_with (go_at_call 38; refine (HYES.out _).mono ?_; rintro e w1 ⟨g, rfl, hg, hgl, hb1⟩; have HG1 := Lib.hid hg; have HB1 := Lib.hid hb1; clear hg hgl hb1)
    clear hw8
    go_loop [15] (fun j => ∃ c : Nat, c ≤ 4 ∧ j = .int .i64 c ∧ (∀ i, i < c → testB s id m i = true)) (fun j => 4 - (intOf j).toNat)
    case atStart => exact ⟨0, Nat.zero_le _, rfl, fun i hi => absurd hi (Nat.not_lt_zero _)⟩
    case round =>
      obtain ⟨c, hc4, rfl, hall⟩ := hrel
      by_cases hcl : c < 4
      · have cg : w1.cell? ⟨g, c, none⟩ = some (.int .i64 (placeB id m c : Nat)) := by rw [HG1.out.cell, plV_get id m c hcl]
        have hp := HLT.out c
        have htest : testB s id m c = bitT (s.data.toList.getD (placeB id m c / 8) 0).toNat (placeB id m c % 8) := rfl
        generalize placeB id m c = p at *
        obtain ⟨j, hj⟩ : ∃ j, j = p / 8 := ⟨_, rfl⟩
        obtain ⟨r, hr⟩ : ∃ r, r = p % 8 := ⟨_, rfl⟩
        have hjn : j < s.size := by have := HM.out; omega
        have hs := HS.out
        have q1 : (p : Int) / 8 = (j : Int) := by omega
        have q2 : (p : Int) % 8 = (r : Int) := by omega
        have hr8 : r < 8 := by omega
        have hx : s.data.toList.getD j 0 = s[j] := by rw [List.getD_eq_getElem?_getD, List.getElem?_eq_getElem (by simpa using hjn)]; rfl
        rw [← hj, ← hr, hx] at htest
        have hx8 := s[j].toNat_lt
        have wj : IntKind.i64.wrap (j : Int) = j := by rw [IntKind.wrap_i64]; omega
        have j1 : (j : Int) < (s.size : Int) := by omega
        have HALL := Lib.hid hall
        have HBADC := Lib.hid (HBAD.out c hcl)
        clear hall hj hr hp hx
        cases hbt : bitT s[j].toNat r with
        | true =>
          have HT := Lib.hid (htest.trans hbt)
          have d1 : bits .and .u8 ((s[j].toNat : Int) / 2 ^ r) 1 = 1 := test_and hx8 hbt
          clear htest hbt hs
          go_wp2
          go_round
          case rel => exact ⟨c + 1, by omega, by go_num, fun i hi => by
            rcases Nat.lt_or_ge i c with h | h
            · exact HALL.out i h
            · obtain rfl : i = c := by omega
              exact HT.out⟩
          case measure => simp [intOf]; omega
        | false =>
          have HN := Lib.hid (HBADC.out (htest.trans hbt))
          have d1 : bits .and .u8 ((s[j].toNat : Int) / 2 ^ r) 1 = 0 := test_and hx8 hbt
          clear htest hbt hs
          go_wp2
          go_ret
          exact ⟨by rw [HN.out]; rfl, HB1.out⟩
      · obtain rfl : c = 4 := by omega
        have HY := Lib.hid (HGOOD.out hall)
        clear hall
        go_wp2
        go_ret
        exact ⟨by rw [HY.out]; rfl, HB1.out⟩

set_option maxHeartbeats 4000000 in
set_option maxRecDepth 100000 in
theorem refhas_any (s id : ByteArray) (hs : s.size ≤ 512) (w : World) :
    Calls Try.prog 46 #[.string s, .string id] w fun e w' => e = .returned (.bool (hasB s id)) ∧ Below w.heap.size w w' := by
  have d0 : decide (512 < (s.size : Int)) = false := decide_eq_false (by omega)
  obtain ⟨m, hm⟩ : ∃ m, m = 8 * s.size := ⟨_, rfl⟩
  have hw8 : wrap64 (8 * (s.size : Int)) = (m : Int) := by rw [w64 _ (by omega) (by omega)]; omega
  cases hpl : placedB id (m : Int) with
  | false =>
    have HNO := Lib.hid (fun W => refplaces_no id m hpl W)
    have HH := Lib.hid (hasB_none (by rw [← hm]; exact hpl))
    clear hpl hm hs
    go_enter Try.func46, Try.ntmps46
    go_wp2_with (go_at_call 39; refine (HNO.out _).mono ?_; rintro e w1 ⟨rfl, rfl⟩)
    refine wp_loop_rounds 1 ?_
    rw [rounds_succ]
    go_wp2
    go_ret
    exact ⟨by rw [HH.out]; rfl, Below.refl _ _⟩
  | true =>
    have h' : id.size = 32 ∧ 1 ≤ (m : Int) ∧ (m : Int) ≤ 4096 := of_decide_eq_true hpl
    have HYES := Lib.hid (fun W => refplaces_yes id m h'.1 (by omega) (by omega) W)
    have HLT := Lib.hid (fun c => placeB_lt id m c (by omega))
    have HBAD := Lib.hid (hasB_bad hm hpl)
    have HGOOD := Lib.hid (hasB_good hm hpl)
    have HM := Lib.hid hm
    have HS := Lib.hid hs
    clear hpl h' hm hs
    go_enter Try.func46, Try.ntmps46
    go_wp2_with (go_at_call 39; refine (HYES.out _).mono ?_; rintro e w1 ⟨g, rfl, hg, hgl, hb1⟩; have HG1 := Lib.hid hg; have HB1 := Lib.hid hb1; clear hg hgl hb1)
    clear hw8
    go_loopw [6] (fun j wr => ∃ c : Nat, c ≤ 4 ∧ j = .int .i64 c ∧ (∀ i, i < c → testB s id m i = true) ∧ Blk wr g 3 (plV id m) ∧ Below w.heap.size w wr) (fun j _ => 4 - (intOf j).toNat)
    case atStart => exact ⟨0, Nat.zero_le _, rfl, fun i hi => absurd hi (Nat.not_lt_zero _), HG1.out, HB1.out⟩
    case round =>
      obtain ⟨c, hc4, rfl, hall, hG, hb⟩ := hrel
      by_cases hcl : c < 4
      · have cg : wr.cell? ⟨g, c, none⟩ = some (.int .i64 (placeB id m c : Nat)) := by rw [hG.cell, plV_get id m c hcl]
        have hp := HLT.out c
        have htest : testB s id m c = bitT (s.data.toList.getD (placeB id m c / 8) 0).toNat (placeB id m c % 8) := rfl
        generalize placeB id m c = p at *
        obtain ⟨j, hj⟩ : ∃ j, j = p / 8 := ⟨_, rfl⟩
        obtain ⟨r, hr⟩ : ∃ r, r = p % 8 := ⟨_, rfl⟩
        have hjn : j < s.size := by have := HM.out; omega
        have hs := HS.out
        have q1 : (p : Int) / 8 = (j : Int) := by omega
        have q2 : (p : Int) % 8 = (r : Int) := by omega
        have hr8 : r < 8 := by omega
        have hx : s.data.toList.getD j 0 = s[j] := by rw [List.getD_eq_getElem?_getD, List.getElem?_eq_getElem (by simpa using hjn)]; rfl
        rw [← hj, ← hr, hx] at htest
        have hx8 := s[j].toNat_lt
        have wj : IntKind.i64.wrap (j : Int) = j := by rw [IntKind.wrap_i64]; omega
        have j1 : (j : Int) < (s.size : Int) := by omega
        have HALL := Lib.hid hall
        have HBADC := Lib.hid (HBAD.out c hcl)
        clear hall hj hr hp hx
        cases hbt : bitT s[j].toNat r with
        | true =>
          have HT := Lib.hid (htest.trans hbt)
          have d1 : ((s[j].toNat : Int) / 2 ^ r).tmod 2 = 1 := test_mod hx8 hbt
          have HG2 := Lib.hid hG
          have HBE2 := Lib.hid hb
          clear hG hb
          clear htest hbt hs
          go_wp2
          go_region
          go_wp2
          go_roundw
          case rel => exact ⟨c + 1, by omega, by go_num, fun i hi => by
            rcases Nat.lt_or_ge i c with h | h
            · exact HALL.out i h
            · obtain rfl : i = c := by omega
              exact HT.out, HG2.out.drew, below_drew HBE2.out⟩
          case measure => simp [intOf]; omega
        | false =>
          have HN := Lib.hid (HBADC.out (htest.trans hbt))
          have d1 : ((s[j].toNat : Int) / 2 ^ r).tmod 2 = 0 := test_mod hx8 hbt
          have HG2 := Lib.hid hG
          have HBE2 := Lib.hid hb
          clear hG hb
          clear htest hbt hs
          go_wp2
          go_region
          go_wp2
          go_ret
          exact ⟨by rw [HN.out]; rfl, below_drew HBE2.out⟩
      · obtain rfl : c = 4 := by omega
        have HY := Lib.hid (HGOOD.out hall)
        have HG2 := Lib.hid hG
        have HBE2 := Lib.hid hb
        clear hG hb
        clear hall
        go_wp2
        go_ret
        exact ⟨by rw [HY.out]; rfl, HBE2.out⟩

end Go.Proofs.Ytbipmeogcmmhhaa
