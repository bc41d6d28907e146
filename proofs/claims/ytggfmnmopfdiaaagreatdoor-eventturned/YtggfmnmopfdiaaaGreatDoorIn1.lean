/-
  Contracts of sha.Input and sha.Tag.
-/
import Derived.Test.YtggfmnmopfdiaaaGreatDoorInPlain
import Derived.Test.YtggfmnmopfdiaaaGreatDoorOct3
import Derived.Test.YtggfmnmopfdiaaaGreatDoorSh6
import Derived.Laws.BytesArg
namespace Go.Proofs.YtggfmnmopfdiaaaGreatDoor
open Go.RowKit Go.Pal

theorem strCells_bytes (s : ByteArray) : Lib.strCells s = s.data.toList.map byteV := rfl

/-- string(out), out a slice of the call's own that holds these bytes. -/
theorem conv_own (w : World) (base : Nat) (v : Value) (l : List UInt8) (hown : w.ownsRow base 5 1 v l.length (l.map byteV)) :
    (convert 79 9 v).run Tryz.prog w = .ok (.string ⟨l.toArray⟩) w := by
  rcases hown.2 with ⟨rfl, h0⟩ | ⟨g, cap, cur, rfl, _⟩
  · have hl : l = [] := List.eq_nil_of_length_eq_zero h0
    subst hl
    exact run_convert_bytes_nil (P := Tryz.prog) w 79 5 Tryz.underlying79 Tryz.underlying5 0 0 9 Tryz.underlying9
  · have h := run_convert_bytes_arg (P := Tryz.prog) w 79 5 Tryz.underlying79 Tryz.underlying5 g 0 l.length cap (l.map fun b => (b.toNat : Int)) (by simp) (fun i hi => by
      rw [Nat.zero_add, hown.cellAt i (by omega)]
      simp [hi, byteV]) 9 Tryz.underlying9
    rw [h, nums_bytes]

set_option maxHeartbeats 1000000 in
theorem input_any (w : World) (tag : Int) (a : Option Addr) (cap : Nat) (ss : List ByteArray) (hss : StrRow w a ss) (htot : totL ss ≤ 2147483647) (hlen : ss.length ≤ 1099511627776) :
    Calls Tryz.prog 80 #[.int .i64 tag, .slice a ss.length cap] w fun e w' => e = .returned (.string ⟨(inputL tag ss).toArray⟩) ∧ Below w.heap.size w w' := by
  obtain ⟨i0, hi, hz0, hz1, hz2⟩ := info_parts (show (Tryz.prog.info? 5).map (fun i => (i.zero, i.size, i.bytes)) = some (some (.int .u8 0), 1, 1) by kernel_rfl)
  have ha := and255 tag
  have hk := numOk_yes (k := 1) (n := tag % 256) (by omega) (by simp; omega)
  have hB := numB_yes hk
  have hby := byte_any (tag % 256) (by omega)
  rw [hB, hk] at hby
  have HBY := Lib.hid hby
  clear hby hB hk
  go_enter Tryz.func80, Tryz.ntmps80
  go_wp2_with fail
  refine (HBY.out _).mono ?_
  rintro e w1 ⟨rfl, b1⟩
  have hz := be_size 1 (tag % 256).toNat
  generalize hH : be 1 (tag % 256).toNat = Hd at *
  have HH := Lib.hid hH
  clear hH HBY ha
  have HSS0 := Lib.hid hss
  have HSS := Lib.hid (hss.below b1)
  have Hb1 := Lib.hid b1
  clear hss
  go_wp2
  go_loop [7, 25] (fun n i => ∃ k : Nat, k ≤ ss.length ∧ i = .int .i64 k ∧ n = .int .i64 ((1 + totL (ss.take k) : Nat) : Int)) (fun _ i => ss.length - (intOf i).toNat)
  case atStart => exact ⟨0, Nat.zero_le _, rfl, rfl⟩
  case round =>
    obtain ⟨k, hk, rfl, rfl⟩ := hrel
    have hle := totL_take_le ss k
    by_cases hlt : k < ss.length
    · have hst := totL_take ss k hlt
      have hle2 := totL_take_le ss (k + 1)
      rcases HSS.out with h0 | ⟨b, off, rfl, hbl, hc⟩
      · rw [h0] at hlt; simp at hlt
      have c0 := hc k hlt
      have HST := Lib.hid hst
      have hps : (ss.getD k ByteArray.empty).size ≤ 1099511627776 := by omega
      generalize ss.getD k ByteArray.empty = p at *
      generalize totL (ss.take k) = T0 at *
      clear hst hc
      go_wp2
      go_round
      case rel => exact ⟨k + 1, by omega, by go_num, by rw [HST.out]; go_num⟩
      case measure => simp [intOf]; omega
    · obtain rfl : k = ss.length := by omega
      rw [List.take_length]
      have hsz1 := Hb1.out.size
      clear hle hk hlt
      generalize hTT : totL ss = TT at *
      have HTT := Lib.hid hTT
      clear hTT
      have hm1 : i0.bytes * (1 + TT) ≤ 281474976710656 := by rw [hz2]; omega
      have hm2 : 1 + TT ≤ maxLen := by unfold maxLen; omega
      have HM1 := Lib.hid hm1
      have HM2 := Lib.hid hm2
      have HM3 := Lib.hid hsz1
      have HI := Lib.hid hi
      have HZ0 := Lib.hid hz0
      have HZ1 := Lib.hid hz1
      have HZ2 := Lib.hid hz2
      have HHZ := Lib.hid hz
      have HTOT := Lib.hid htot
      have HLEN := Lib.hid hlen
      clear hm1 hm2 hsz1 hi hz0 hz1 hz2 hz htot
      go_wp2_with (at_make; refine wpList_make_own _ rfl _ _ 79 rfl w.heap.size 5 i0 (.int .u8 0) 1 Tryz.underlying79 HI.out HZ0.out HZ1.out .i64 .i64 _ (1 + TT) rfl rfl rfl HM1.out HM2.out HM3.out ?_)
      intro w2 hown2 hg2
      have bel2 := Hb1.out.grown hg2 HM3.out (by intro k hk; cases hk)
      have HO2 := Lib.hid hown2
      have HC1 : Hid (0 + Hd.size ≤ maxLen) := by have := HHZ.out; show 0 + Hd.size ≤ maxLen; unfold maxLen; omega
      have HC2 : Hid (0 + Hd.size ≤ 140737488355328) := by have := HHZ.out; show 0 + Hd.size ≤ 140737488355328; omega
      have HC3 := Lib.hid bel2.size
      have HBEL2 := Lib.hid bel2
      clear hown2 hg2 bel2
      go_wp2_with (at_builtin; refine Lib.wpList_append_own_string _ rfl _ _ 79 9 rfl w.heap.size 5 i0 Tryz.underlying79 Tryz.underlying9 HI.out HZ0.out HZ1.out HZ2.out _ 0 [] rfl HO2.out Hd rfl HC1.out HC2.out HC3.out ?_)
      intro v3 w3 hown3 hg3 _
      have bel3 := HBEL2.out.grown hg3 HC3.out (by intro k hk; simp [Value.ownBlock] at hk; subst hk; exact HM3.out)
      have hown4 : w3.ownsRow w.heap.size 5 1 v3 (inputL tag (ss.take 0)).length ((inputL tag (ss.take 0)).map byteV) := by
        have e : (inputL tag (ss.take 0)).length = Hd.size := by rw [inputL_length, List.take_zero, HHZ.out]; rfl
        have e2 : (inputL tag (ss.take 0)).map byteV = Lib.strCells Hd := by rw [strCells_bytes, ← HH.out]; rfl
        rw [e, e2]; exact hown3
      have HO4 := Lib.hid hown4
      have HB4 := Lib.hid bel3
      clear hown3 hg3 hown4 bel3 HC1 HC2 HC3 HBEL2 HO2 HM1 HM2 HH HHZ
      go_wp2
      go_loopw [10, 42] (fun v i wr => ∃ k : Nat, k ≤ ss.length ∧ i = .int .i64 k ∧ wr.ownsRow w.heap.size 5 1 v (inputL tag (ss.take k)).length ((inputL tag (ss.take k)).map byteV) ∧ Below w.heap.size w wr) (fun _ i _ => ss.length - (intOf i).toNat)
      case atStart => exact ⟨0, by omega, rfl, HO4.out, HB4.out⟩
      case round =>
        clear HO4 HB4
        obtain ⟨k, hk, rfl, hown, hbel⟩ := hrel
        by_cases hlt : k < ss.length
        · have hnext := inputL_take tag ss k hlt
          have hps := size_le_tot ss k hlt
          have hsz := inputL_length tag (ss.take k)
          have hle := totL_take_le ss k
          have htt := HTOT.out
          have hT0 := HTT.out
          rcases HSS0.out with h0 | ⟨b, off, rfl, hbl, hc⟩
          · rw [h0] at hlt; simp at hlt
          have c0 := (hbel.cell (p := ⟨b, off + k, none⟩) hbl).trans (hc k hlt)
          generalize ss.getD k ByteArray.empty = p at *
          generalize inputL tag (ss.take k) = I at *
          generalize hI1 : inputL tag (ss.take (k + 1)) = I1 at *
          have HI1 := Lib.hid hI1
          clear hI1
          have hpk := numOk_yes (k := 4) (n := (p.size : Int)) (by omega) (by simp; omega)
          have hpB := numB_yes hpk
          rw [Int.toNat_natCast] at hpB
          have hlo := long_any (p.size : Int) (by omega)
          rw [hpB, hpk] at hlo
          have hz4 := be_size 4 p.size
          have HLO := Lib.hid hlo
          have HN := Lib.hid hnext
          have HOWN := Lib.hid hown
          have HBEL := Lib.hid hbel
          have hIs : I.length + 4 + p.size ≤ 9000000000 := by omega
          clear hpk hpB hlo hnext hown hbel hsz hle hT0 hc htt
          go_wp2_with fail
          refine (HLO.out _).mono ?_
          rintro e w4 ⟨rfl, hb4⟩
          have hown4 := HOWN.out.kept (Lib.grownBy_below (World.grownBy.refl wr none) hb4) (by cases h : Value.ownBlock _ <;> simp)
          have bel4 := HBEL.out.trans (hb4.mono HBEL.out.size)
          have c4 := (hb4.cell (p := ⟨b, off + k, none⟩) (Nat.lt_of_lt_of_le hbl HBEL.out.size)).trans c0
          have HC1 : Hid (I.length + (be 4 p.size).size ≤ maxLen) := by show _ ≤ maxLen; rw [hz4]; unfold maxLen; omega
          have HC2 : Hid (I.length + (be 4 p.size).size ≤ 140737488355328) := by show _ ≤ _; rw [hz4]; omega
          have HC3 := Lib.hid bel4.size
          have HO4 := Lib.hid hown4
          have HB4 := Lib.hid bel4
          have HZ4 := Lib.hid hz4
          clear hb4 hown4 bel4 c0 c4 HLO hz4
          go_wp2_with (at_builtin; refine Lib.wpList_append_own_string _ rfl _ _ 79 9 rfl w.heap.size 5 i0 Tryz.underlying79 Tryz.underlying9 HI.out HZ0.out HZ1.out HZ2.out _ I.length (I.map byteV) rfl HO4.out (be 4 p.size) rfl HC1.out HC2.out HC3.out ?_)
          intro v5 w5 hown5 hg5 _
          have bel5 := HB4.out.grown hg5 HC3.out (fun j hj => (HO4.out.lt j hj).1)
          have hown5' : w5.ownsRow w.heap.size 5 1 v5 (I ++ beL 4 p.size).length ((I ++ beL 4 p.size).map byteV) := by
            have e : (I ++ beL 4 p.size).length = I.length + (be 4 p.size).size := by rw [List.length_append, beL_length, HZ4.out]
            have e2 : (I ++ beL 4 p.size).map byteV = I.map byteV ++ Lib.strCells (be 4 p.size) := by rw [List.map_append]; rfl
            rw [e, e2]; exact hown5
          have HD1 : Hid ((I ++ beL 4 p.size).length + p.size ≤ maxLen) := by show _ ≤ maxLen; rw [List.length_append, beL_length]; unfold maxLen; omega
          have HD2 : Hid ((I ++ beL 4 p.size).length + p.size ≤ 140737488355328) := by show _ ≤ _; rw [List.length_append, beL_length]; omega
          have HD3 := Lib.hid bel5.size
          have HO5 := Lib.hid hown5'
          have HB5 := Lib.hid bel5
          generalize I ++ beL 4 p.size = J at *
          clear hown5 hg5 hown5' bel5 HC1 HC2 HC3 HO4 HB4 HOWN HBEL
          go_wp2_with (at_builtin; refine Lib.wpList_append_own_string _ rfl _ _ 79 9 rfl w.heap.size 5 i0 Tryz.underlying79 Tryz.underlying9 HI.out HZ0.out HZ1.out HZ2.out _ J.length (J.map byteV) rfl HO5.out p rfl HD1.out HD2.out HD3.out ?_)
          intro v6 w6 hown6 hg6 _
          have bel6 := HB5.out.grown hg6 HD3.out (fun j hj => (HO5.out.lt j hj).1)
          have hown6' : w6.ownsRow w.heap.size 5 1 v6 I1.length (I1.map byteV) := by
            have e : I1.length = J.length + p.size := by rw [HN.out, List.length_append]; simp
            have e2 : I1.map byteV = J.map byteV ++ Lib.strCells p := by rw [HN.out, List.map_append]; rfl
            rw [e, e2]; exact hown6
          have HO6 := Lib.hid hown6'
          have HB6 := Lib.hid bel6
          clear hown6 hg6 hown6' bel6 HD1 HD2 HD3 HO5 HB5
          go_wp2
          go_roundw
          case rel => exact ⟨k + 1, by omega, by go_num, by rw [HI1.out]; exact HO6.out, HB6.out⟩
          case measure => simp [intOf]; omega
        · obtain rfl : k = ss.length := by omega
          rw [List.take_length] at hown
          have hcv := conv_own wr w.heap.size _ _ hown
          have HBEL := Lib.hid hbel
          clear hown hbel
          go_wp2
          go_ret
          exact ⟨rfl, HBEL.out⟩

end Go.Proofs.YtggfmnmopfdiaaaGreatDoor
