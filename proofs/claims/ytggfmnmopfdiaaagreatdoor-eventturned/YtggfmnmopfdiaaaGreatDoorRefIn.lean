/-
  Contracts of the document's Input and Tag.
-/
import Derived.Test.YtggfmnmopfdiaaaGreatDoorIn2
import Derived.Test.YtggfmnmopfdiaaaGreatDoorOct4
import Derived.Test.YtggfmnmopfdiaaaGreatDoorRefSum
import Derived.Deep.AppendLies
namespace Go.Pal
open Go.RowKit
/-- A tag's byte, as the document reckons it. -/
theorem tag_byte (t : Int) : (wrap64 (t.tmod 256 + 256)).tmod 256 % 256 = t % 256 := by
  have h1 := Int.tmod_lt_of_pos t (show (0 : Int) < 256 by omega)
  have h2 : -256 < t.tmod 256 := by
    have := Int.lt_tmod_of_pos t (show (0 : Int) < 256 by omega)
    omega
  rw [IntWalk.wrap64_in _ (by omega), Int.tmod_eq_emod_of_nonneg (by omega)]
  have h3 := Int.tmod_add_mul_tdiv t 256
  omega
end Go.Pal
namespace Go.Proofs.YtggfmnmopfdiaaaGreatDoor
open Go.RowKit Go.Pal

set_option maxHeartbeats 1000000 in
theorem refinput_any (w : World) (tag : Int) (a : Option Addr) (cap : Nat) (ss : List ByteArray) (hss : StrRow w a ss) (htot : totL ss ≤ 2147483647) (hlen : ss.length ≤ 1099511627776) :
    Calls Tryz.prog 44 #[.int .i64 tag, .slice a ss.length cap] w fun e w' => e = .returned (.string ⟨(inputL tag ss).toArray⟩) ∧ Below w.heap.size w w' := by
  obtain ⟨i0, hi, hz0, hz1, hz2⟩ := info_parts (show (Tryz.prog.info? 5).map (fun i => (i.zero, i.size, i.bytes)) = some (some (.int .u8 0), 1, 1) by kernel_rfl)
  have HSS0 := Lib.hid hss
  have HI := Lib.hid hi
  have HZ0 := Lib.hid hz0
  have HZ1 := Lib.hid hz1
  have HZ2 := Lib.hid hz2
  have HTOT := Lib.hid htot
  clear hss hi hz0 hz1 hz2 htot
  go_enter Tryz.func44, Tryz.ntmps44
  go_wp2
  go_loopw [5, 6] (fun v i wr => ∃ k : Nat, k ≤ ss.length ∧ i = .int .i64 k ∧ wr.ownsRow w.heap.size 5 1 v (inputL tag (ss.take k)).length ((inputL tag (ss.take k)).map byteV) ∧ Below w.heap.size w wr) (fun _ i _ => ss.length - (intOf i).toNat)
  case atStart =>
    refine ⟨0, by omega, rfl, ?_, (Below.refl _ _).alloc (Nat.le_refl _) _⟩
    rw [tag_byte tag]
    have h := World.ownsRow_lit (base := w.heap.size) (e := 5) (size := 1) w #[byteV (UInt8.ofNat (tag % 256).toNat)] 1 (Nat.le_refl _) (by unfold maxLen; omega) rfl
    have e : byteV (UInt8.ofNat (tag % 256).toNat) = .int .u8 (tag % 256) := by
      unfold byteV
      simp
      omega
    rw [e] at h
    have e2 : (inputL tag (ss.take 0)).map byteV = [.int .u8 (tag % 256)] := by
      rw [List.take_zero]; show [byteV (UInt8.ofNat (tag % 256).toNat)] = _; rw [e]
    rw [e2]
    exact h
  case round =>
    obtain ⟨k, hk, rfl, hown, hbel⟩ := hrel
    by_cases hlt : k < ss.length
    · have hnext := inputL_take tag ss k hlt
      have hps := size_le_tot ss k hlt
      have hsz := inputL_length tag (ss.take k)
      have hle := totL_take_le ss k
      have htt := HTOT.out
      rcases HSS0.out with h0 | ⟨b, off, rfl, hbl, hc⟩
      · rw [h0] at hlt; simp at hlt
      have c0 := (hbel.cell (p := ⟨b, off + k, none⟩) hbl).trans (hc k hlt)
      generalize ss.getD k ByteArray.empty = p at *
      generalize inputL tag (ss.take k) = I at *
      generalize hI1 : inputL tag (ss.take (k + 1)) = I1 at *
      have HI1 := Lib.hid hI1
      clear hI1
      have hpk := numOk_yes (k := 4) (n := (p.size : Int)) (by omega) (by simp; omega)
      have hpB := numB_yes hpk
      rw [Int.toNat_natCast] at hpB
      have hlo := number4_any (p.size : Int)
      rw [hpB, hpk] at hlo
      have hz4 := be_size 4 p.size
      have HLO := Lib.hid hlo
      have HN := Lib.hid hnext
      have HOWN := Lib.hid hown
      have HBEL := Lib.hid hbel
      have hIs : I.length + 4 + p.size ≤ 9000000000 := by omega
      clear hpk hpB hlo hnext hown hbel hsz hle hc htt
      go_wp2_with fail
      refine (HLO.out _).mono ?_
      rintro e w4 ⟨rfl, hb4⟩
      have hown4 := HOWN.out.kept (Lib.grownBy_below (World.grownBy.refl wr none) hb4) (by cases h : Value.ownBlock _ <;> simp)
      have bel4 := HBEL.out.trans (hb4.mono HBEL.out.size)
      have c4 := (hb4.cell (p := ⟨b, off + k, none⟩) (Nat.lt_of_lt_of_le hbl HBEL.out.size)).trans c0
      have HC4 := Lib.hid c4
      have HC1 : Hid (I.length + (be 4 p.size).size ≤ maxLen) := by show _ ≤ maxLen; rw [hz4]; unfold maxLen; omega
      have HC2 : Hid (I.length + (be 4 p.size).size ≤ 140737488355328) := by show _ ≤ _; rw [hz4]; omega
      have HC3 := Lib.hid bel4.size
      have HO4 := Lib.hid hown4
      have HB4 := Lib.hid bel4
      have HZ4 := Lib.hid hz4
      clear hb4 hown4 bel4 c0 c4 HLO hz4
      go_wp2_with (at_builtin; refine Lib.wpList_append_own_string _ rfl _ _ 79 9 rfl w.heap.size 5 i0 Tryz.underlying79 Tryz.underlying9 HI.out HZ0.out HZ1.out HZ2.out _ I.length (I.map byteV) rfl HO4.out (be 4 p.size) rfl HC1.out HC2.out HC3.out ?_)
      intro v5 w5 hown5 hg5 _
      have bel5 := HB4.out.grown hg5 HC3.out (fun j hj => (HO4.out.lt j hj).1)
      have c5 : w5.cell? ⟨b, off + k, none⟩ = some (.string p) := (hg5.cell_far ⟨b, off + k, none⟩ (Nat.lt_of_lt_of_le hbl HC3.out) (fun e => by have := (HO4.out.lt b e.symm).1; omega)).trans HC4.out
      have hown5' : w5.ownsRow w.heap.size 5 1 v5 (I ++ beL 4 p.size).length ((I ++ beL 4 p.size).map byteV) := by
        have e : (I ++ beL 4 p.size).length = I.length + (be 4 p.size).size := by rw [List.length_append, beL_length, HZ4.out]
        have e2 : (I ++ beL 4 p.size).map byteV = I.map byteV ++ Lib.strCells (be 4 p.size) := by rw [List.map_append]; rfl
        rw [e, e2]; exact hown5
      have HD1 : Hid ((I ++ beL 4 p.size).length + p.size ≤ maxLen) := by show _ ≤ maxLen; rw [List.length_append, beL_length]; unfold maxLen; omega
      have HD2 : Hid ((I ++ beL 4 p.size).length + p.size ≤ 140737488355328) := by show _ ≤ _; rw [List.length_append, beL_length]; omega
      have HD3 := Lib.hid bel5.size
      have HO5 := Lib.hid hown5'
      have HB5 := Lib.hid bel5
      generalize I ++ beL 4 p.size = J at *
      clear hown5 hg5 hown5' bel5 HC1 HC2 HC3 HO4 HB4 HOWN HBEL HC4
      go_wp2_with (at_builtin; refine Lib.wpList_append_own_string _ rfl _ _ 79 9 rfl w.heap.size 5 i0 Tryz.underlying79 Tryz.underlying9 HI.out HZ0.out HZ1.out HZ2.out _ J.length (J.map byteV) rfl HO5.out p rfl HD1.out HD2.out HD3.out ?_)
      intro v6 w6 hown6 hg6 _
      have bel6 := HB5.out.grown hg6 HD3.out (fun j hj => (HO5.out.lt j hj).1)
      have hown6' : w6.ownsRow w.heap.size 5 1 v6 I1.length (I1.map byteV) := by
        have e : I1.length = J.length + p.size := by rw [HN.out, List.length_append]; simp
        have e2 : I1.map byteV = J.map byteV ++ Lib.strCells p := by rw [HN.out, List.map_append]; rfl
        rw [e, e2]; exact hown6
      have HO6 := Lib.hid hown6'
      have HB6 := Lib.hid bel6
      clear hown6 hg6 hown6' bel6 HD1 HD2 HD3 HO5 HB5
      go_wp2
      go_roundw
      case rel => exact ⟨k + 1, by omega, by go_num, by rw [HI1.out]; exact HO6.out, HB6.out⟩
      case measure => simp [intOf]; omega
    · obtain rfl : k = ss.length := by omega
      rw [List.take_length] at hown
      have hcv := conv_own wr w.heap.size _ _ hown
      have HBEL := Lib.hid hbel
      clear hown hbel
      go_wp2
      go_ret
      exact ⟨rfl, HBEL.out⟩

set_option maxHeartbeats 400000 in
theorem reftag_any (w : World) (tag : Int) (a : Option Addr) (cap : Nat) (ss : List ByteArray) (hss : StrRow w a ss) (htot : totL ss ≤ 9000000) (hlen : ss.length ≤ 1099511627776) :
    Calls Tryz.prog 35 #[.int .i64 tag, .slice a ss.length cap] w fun e w' => e = .returned (.string (shaB ⟨(inputL tag ss).toArray⟩)) ∧ Below w.heap.size w w' := by
  have hl : (⟨(inputL tag ss).toArray⟩ : ByteArray).size ≤ 10000000 := by
    show (inputL tag ss).toArray.size ≤ _
    rw [List.size_toArray, inputL_length]; omega
  have HL := Lib.hid hl
  have HIN := Lib.hid (refinput_any w tag a cap ss hss (by omega) hlen)
  clear hl hss htot
  generalize (⟨(inputL tag ss).toArray⟩ : ByteArray) = I at *
  go_enter Tryz.func35, Tryz.ntmps35
  go_wp2_with fail
  refine HIN.out.mono ?_
  rintro e w1 ⟨rfl, b1⟩
  go_wp2_with fail
  refine (refsum_any w1 I HL.out).mono ?_
  rintro e w2 ⟨rfl, b2⟩
  go_wp2
  go_ret
  exact ⟨rfl, b1.trans (b2.mono b1.size)⟩
end Go.Proofs.YtggfmnmopfdiaaaGreatDoor
