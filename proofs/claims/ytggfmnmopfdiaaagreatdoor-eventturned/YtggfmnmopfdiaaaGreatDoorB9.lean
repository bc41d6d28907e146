/-
  What a reader tells of bytes that were laid: plain facts.
  Contracts of the document's Value and of the law's own read.
  Contracts of the document's keys: Parts.
-/
import Derived.Test.YtggfmnmopfdiaaaGreatDoorB7
import Derived.BigQuiet
import Derived.Deep.QuietTactic
import Derived.Test.YtggfmnmopfdiaaaGreatDoorB8
namespace Go.Proofs.YtggfmnmopfdiaaaGreatDoor
open Go.RowKit Go.Pal

theorem ext_left (x y : ByteArray) : (x ++ y).extract 0 x.size = x := by
  rw [ByteArray.ext_iff]
  simp only [ByteArray.data_extract, ByteArray.data_append]
  rw [Array.extract_append]
  simp
theorem ext_right (x y : ByteArray) : (x ++ y).extract x.size (x ++ y).size = y := by
  obtain ⟨xa⟩ := x
  obtain ⟨ya⟩ := y
  rw [ByteArray.ext_iff]
  simp only [ByteArray.data_extract, ByteArray.data_append, ByteArray.size_append]
  have e1 : ByteArray.size ⟨xa⟩ = xa.size := rfl
  have e2 : ByteArray.size ⟨ya⟩ = ya.size := rfl
  rw [e1, e2, Array.extract_append]
  simp

theorem rd_cat {k : Int} {x : ByteArray} (y : ByteArray) (h : k = (x.size : Nat)) : rdOk k (x ++ y) false = true ∧ rdOut k (x ++ y) false = x ∧ rdRest k (x ++ y) false = y := by
  subst h
  have hk : rdOk (x.size : Nat) (x ++ y) false = true := by simp [rdOk]; omega
  refine ⟨hk, ?_, ?_⟩
  · simp only [rdOut, hk, if_true, Int.toNat_natCast]; exact ext_left x y
  · simp only [rdRest, hk, if_true, Int.toNat_natCast]; exact ext_right x y

theorem val_be (k n : Nat) (h : n < 256 ^ k) : valL (be k n).data.toList = n := by
  show valL (beL k n).toArray.toList = n
  rw [List.toList_toArray]; exact valL_beL k n h

/-- A text that was laid, with anything behind it. -/
theorem rd_text (t y : ByteArray) (h : t.size < 65536) :
    rdOk 2 (be 2 t.size ++ t ++ y) false = true ∧ rdLen (be 2 t.size ++ t ++ y) false = t.size ∧ rdRest 2 (be 2 t.size ++ t ++ y) false = t ++ y := by
  have e : be 2 t.size ++ t ++ y = be 2 t.size ++ (t ++ y) := by rw [ByteArray.append_assoc]
  rw [e]
  obtain ⟨h1, h2, h3⟩ := rd_cat (k := 2) (x := be 2 t.size) (t ++ y) (by rw [be_size]; rfl)
  refine ⟨h1, ?_, h3⟩
  rw [rdLen, h2, val_be 2 t.size (by simpa using h)]

/-- A text that was laid, cut off anywhere. -/
theorem rd_cut (t : ByteArray) (k : Nat) (h : t.size < 65536) (hk : k < t.size + 2) :
    rdOk (rdLen ((be 2 t.size ++ t).extract 0 k) false) (rdRest 2 ((be 2 t.size ++ t).extract 0 k) false) (!rdOk 2 ((be 2 t.size ++ t).extract 0 k) false) = false := by
  have hz : ((be 2 t.size ++ t).extract 0 k).size = k := by
    rw [ByteArray.size_extract, ByteArray.size_append, be_size]; omega
  by_cases h2 : k < 2
  · have hno : rdOk 2 ((be 2 t.size ++ t).extract 0 k) false = false := by simp [rdOk, hz]; omega
    rw [hno]; simp [rdOk]
  · have hb := be_size 2 t.size
    have e : (be 2 t.size ++ t).extract 0 k = be 2 t.size ++ t.extract 0 (k - 2) := by
      rw [ByteArray.ext_iff]
      simp only [ByteArray.data_extract, ByteArray.data_append]
      have hb' : (be 2 t.size).data.size = 2 := hb
      rw [Array.extract_append, hb']
      congr 1
      rw [Array.extract_eq_self_iff]
      right
      omega
    rw [e]
    obtain ⟨h1, h3, h4⟩ := rd_cat (k := 2) (x := be 2 t.size) (t.extract 0 (k - 2)) (by rw [hb]; rfl)
    rw [h1, h4, rdLen, h3, val_be 2 t.size (by simpa using h)]
    simp [rdOk]
    omega


end Go.Proofs.YtggfmnmopfdiaaaGreatDoor
namespace Go.Proofs.YtggfmnmopfdiaaaGreatDoor
open Go.RowKit Go.Pal

theorem take_snoc (s : ByteArray) (k : Nat) (h : k < s.size) : s.data.toList.take (k + 1) = s.data.toList.take k ++ [s[k]] := by
  rw [List.take_succ_eq_append_getElem (by simpa using h)]; rfl

theorem valL_take_lt (s : ByteArray) (k : Nat) (h : k ≤ 6) : valL (s.data.toList.take k) < 281474976710656 := by
  have h1 := valL_lt (s.data.toList.take k)
  have h2 : (s.data.toList.take k).length ≤ 6 := Nat.le_trans (List.length_take_le _ _) h
  have h3 : 256 ^ (s.data.toList.take k).length ≤ 256 ^ 6 := Nat.pow_le_pow_right (by decide) h2
  have h4 : 256 ^ 6 = 281474976710656 := by decide
  omega

set_option maxHeartbeats 400000 in
theorem value_any (s : ByteArray) (h : s.size ≤ 6) (w : World) :
    Calls Tryz.prog 77 #[.string s] w fun e w' => e = .returned (.int .i64 (valL s.data.toList)) ∧ w = w' := by
  go_enter Tryz.func77, Tryz.ntmps77
  go_wp2
  go_loop [3, 4] (fun n i => ∃ k : Nat, k ≤ s.size ∧ i = .int .i64 k ∧ n = .int .i64 (valL (s.data.toList.take k))) (fun _ i => s.size - (intOf i).toNat)
  case atStart => exact ⟨0, Nat.zero_le _, rfl, rfl⟩
  case round =>
    obtain ⟨k, hk, rfl, rfl⟩ := hrel
    have hb := valL_take_lt s k (by omega)
    by_cases hlt : k < s.size
    · have hs : valL (s.data.toList.take (k + 1)) = 256 * valL (s.data.toList.take k) + s[k].toNat := by rw [take_snoc s k hlt, valL_snoc]
      have HS := Lib.hid hs
      have hc := s[k].toNat_lt
      clear hs
      go_wp2
      go_round
      case rel => exact ⟨k + 1, by omega, by go_num, by rw [HS.out]; go_num⟩
      case measure => simp [intOf]; omega
    · go_wp2
      go_ret
      exact ⟨ret_i (by rw [List.take_of_length_le (by simp; omega)]), rfl⟩

/-- What is left of the text itself. -/
def refRest (n : Int) (s : ByteArray) (bad : Bool) : ByteArray := if rdOk n s bad = true then s.extract n.toNat s.size else s





end Go.Proofs.YtggfmnmopfdiaaaGreatDoor
namespace Go.Proofs.YtggfmnmopfdiaaaGreatDoor
open Go.RowKit Go.Pal

theorem results_tmp4 {fn : Func} {t u v x : Tmp} (h : fn.results = #[.tmp t, .tmp u, .tmp v, .tmp x]) (tmps : Array Value) (P : Program) (w : World) :
    (results fn tmps).run P w = .ok (.tuple #[tmps.getD t undef, tmps.getD u undef, tmps.getD v undef, tmps.getD x undef]) w := by
  simp [results, h]

set_option maxHeartbeats 2000000 in
set_option maxRecDepth 100000 in
theorem parts_no (w : World) (s : ByteArray) (hs : ∀ h leaf, ¬ SigOk s h leaf) :
    Calls Tryz.prog 41 #[.string s] w fun e w' => e = .returned (.tuple #[.int .i64 0, .slice none 0 0, .slice none 0 0, .bool false]) ∧ w = w' := by
  have HS := Lib.hid hs
  have HPW := Lib.hid (fun (k : Nat) (hk : k ≤ 4) => pow_le16 k hk)
  have HPS := Lib.hid (fun k : Nat => (Nat.pow_succ 2 k : 2 ^ (k + 1) = 2 ^ k * 2))
  clear hs
  go_enter Tryz.func41, Tryz.ntmps41
  go_wp2
  go_loopw [6] (fun i wr => ∃ k : Nat, k ≤ 5 ∧ i = .int .i64 k ∧ wr = w) (fun i _ => 5 - (intOf i).toNat)
  case atStart => exact ⟨0, by omega, rfl, rfl⟩
  case round =>
    obtain ⟨k, hk, rfl, rfl⟩ := hrel
    have hw1 : IntKind.i64.wrap (67 + (k : Int)) = 67 + (k : Int) := by rw [IntKind.wrap_i64]; omega
    have hw2 : IntKind.i64.wrap (32 * (67 + (k : Int))) = 32 * (67 + (k : Int)) := by rw [IntKind.wrap_i64]; omega
    have hw3 : IntKind.i64.wrap (2 + 32 * (67 + (k : Int))) = 2 + 32 * (67 + (k : Int)) := by rw [IntKind.wrap_i64]; omega
    by_cases hlt : k < 5
    · by_cases hz : s.size = 2 + 32 * (67 + k)
      · have hge : 2 ^ k ≤ valL (s.extract 0 2).data.toList := by
          rcases Nat.lt_or_ge (valL (s.extract 0 2).data.toList) (2 ^ k) with h1 | h1
          · exact absurd ⟨by omega, hz, rfl, h1⟩ (HS.out k _)
          · exact h1
        have hne : ((s.size : Int) != 2 + 32 * (67 + (k : Int))) = false := by simp only [bne_eq_false_iff_eq]; omega
        have HVA := Lib.hid (fun W => value_any (s.extract 0 2) (by rw [ByteArray.size_extract]; omega) W)
        have h2z : 2 ≤ s.size := by omega
        have hle : k ≤ 4 := by omega
        generalize valL (s.extract 0 2).data.toList = leaf at *
        have HGE := Lib.hid hge
        clear hge hz
        go_wp2_with (go_at_call 77; refine (HVA.out _).mono ?_; rintro e w1 ⟨rfl, rfl⟩)
        go_loopw [8, 9] (fun n i wr2 => ∃ j : Nat, j ≤ k ∧ i = .int .i64 j ∧ n = .int .i64 ((2 ^ j : Nat) : Int) ∧ wr2 = wr) (fun _ i _ => k - (intOf i).toNat)
        case atStart => exact ⟨0, by omega, rfl, rfl, rfl⟩
        case round =>
          obtain ⟨j, hj, rfl, rfl, rfl⟩ := hrel
          by_cases hjl : j < k
          · have hp := HPW.out j (by omega)
            have HE := Lib.hid (HPS.out j)
            generalize 2 ^ j = q at *
            have hw : IntKind.i64.wrap (2 * (q : Int)) = 2 * (q : Int) := by rw [IntKind.wrap_i64]; omega
            go_wp2
            go_roundw
            case rel => exact ⟨j + 1, by omega, by go_num, by rw [HE.out]; first | (congr 1; omega) | (congr 2; omega), by first | rfl | trivial⟩
            case measure => simp [intOf]; omega
          · obtain rfl : j = k := by omega
            have hge := HGE.out
            generalize 2 ^ j = n at *
            go_wp2
            (try simp only [Exit.inBlock, Exit.then])
            refine bodyPost_ret (results_tmp4 rfl _ _ _) rfl ?_
            exact ⟨rfl, rfl⟩
      · have hne : ((s.size : Int) != 2 + 32 * (67 + (k : Int))) = true := by simp only [bne_iff_ne]; omega
        have hle : k ≤ 4 := by omega
        go_wp2
        go_roundw
        case rel => exact ⟨k + 1, by omega, by go_num, by first | rfl | trivial⟩
        case measure => simp [intOf]; omega
    · obtain rfl : k = 5 := by omega
      rw [show ((5 : Nat) : Int) = 5 from rfl]
      go_wp2
      (try simp only [Exit.inBlock, Exit.then])
      refine bodyPost_ret (results_tmp4 rfl _ _ _) rfl ?_
      exact ⟨rfl, rfl⟩

theorem strRow_take {w : World} {g o : Nat} {l m : List ByteArray} (h : StrRow w (some ⟨g, o, none⟩) (l ++ m)) : StrRow w (some ⟨g, o, none⟩) l := by
  rcases h with h | ⟨b, off, he, hbl, hc⟩
  · exact .inl (List.append_eq_nil_iff.1 h).1
  · cases he
    refine .inr ⟨g, o, rfl, hbl, fun i hi => ?_⟩
    rw [hc i (by rw [List.length_append]; omega), List.getD_eq_getElem?_getD, List.getElem?_append_left hi, List.getD_eq_getElem?_getD]
theorem strRow_drop {w : World} {g o : Nat} {l m : List ByteArray} (h : StrRow w (some ⟨g, o, none⟩) (l ++ m)) : StrRow w (some ⟨g, o + l.length, none⟩) m := by
  rcases h with h | ⟨b, off, he, hbl, hc⟩
  · exact .inl (List.append_eq_nil_iff.1 h).2
  · cases he
    refine .inr ⟨g, o + l.length, rfl, hbl, fun i hi => ?_⟩
    rw [show o + l.length + i = o + (l.length + i) by omega, hc (l.length + i) (by rw [List.length_append]; omega), List.getD_eq_getElem?_getD, List.getElem?_append_right (by omega), List.getD_eq_getElem?_getD, show l.length + i - l.length = i by omega]

set_option maxHeartbeats 2000000 in
set_option maxRecDepth 100000 in
theorem parts_yes (w : World) (s : ByteArray) (h leaf : Nat) (hs : SigOk s h leaf) :
    Calls Tryz.prog 41 #[.string s] w fun e w' => (∃ g o c a2 c2, e = .returned (.tuple #[.int .i64 (leaf : Int), .slice (some ⟨g, o, none⟩) 67 c, .slice a2 h c2, .bool true]) ∧ StrRow w' (some ⟨g, o, none⟩) (cutL s 2 67) ∧ StrRow w' a2 (cutL s 2146 h) ∧ g < w'.heap.size) ∧ Below w.heap.size w w' := by
  obtain ⟨i0, hi0, hz0, hz1, hz2⟩ := info_parts (show (Tryz.prog.info? 9).map (fun i => (i.zero, i.size, i.bytes)) = some (some (.string ⟨#[]⟩), 1, 16) by kernel_rfl)
  have HZ := Lib.hid hs.hz
  have hh := hs.hh
  have hva := fun W => value_any (s.extract 0 2) (by rw [ByteArray.size_extract]; omega) W
  rw [← hs.hl] at hva
  have HVA := Lib.hid hva
  have HLT := Lib.hid hs.lt
  have h2z : 2 ≤ s.size := by have := hs.hz; omega
  have HPW := Lib.hid (fun (k : Nat) (hk : k ≤ 4) => pow_le16 k hk)
  have HPS := Lib.hid (fun k : Nat => (Nat.pow_succ 2 k : 2 ^ (k + 1) = 2 ^ k * 2))
  have HTK := Lib.hid (fun k : Nat => cutL_succ s 2 k)
  have HLN := Lib.hid (fun k : Nat => cutL_length s 2 k)
  have HAD := Lib.hid (show cutL s 2 (67 + h) = cutL s 2 67 ++ cutL s 2146 h from cutL_add s 2 67 h)
  have HLP := Lib.hid (cutL_length s 2146 h)
  clear hs hva
  go_enter Tryz.func41, Tryz.ntmps41
  go_wp2
  go_loopw [6] (fun i wr => ∃ k : Nat, k ≤ h ∧ i = .int .i64 k ∧ wr = w) (fun i _ => 5 - (intOf i).toNat)
  case atStart => exact ⟨0, by omega, rfl, rfl⟩
  case round =>
    obtain ⟨k, hk, rfl, rfl⟩ := hrel
    have hw1 : IntKind.i64.wrap (67 + (k : Int)) = 67 + (k : Int) := by rw [IntKind.wrap_i64]; omega
    have hw2 : IntKind.i64.wrap (32 * (67 + (k : Int))) = 32 * (67 + (k : Int)) := by rw [IntKind.wrap_i64]; omega
    have hw3 : IntKind.i64.wrap (2 + 32 * (67 + (k : Int))) = 2 + 32 * (67 + (k : Int)) := by rw [IntKind.wrap_i64]; omega
    have hle : k ≤ 4 := by omega
    by_cases hlt : k < h
    · have hne : ((s.size : Int) != 2 + 32 * (67 + (k : Int))) = true := by have := HZ.out; simp only [bne_iff_ne]; omega
      go_wp2
      go_roundw
      case rel => exact ⟨k + 1, by omega, by go_num, by first | rfl | trivial⟩
      case measure => simp [intOf]; omega
    · obtain rfl : k = h := by omega
      have hne : ((s.size : Int) != 2 + 32 * (67 + (k : Int))) = false := by have := HZ.out; simp only [bne_eq_false_iff_eq]; omega
      go_wp2_with (go_at_call 77; refine (HVA.out _).mono ?_; rintro e w1 ⟨rfl, rfl⟩)
      go_loopw [8, 9] (fun n i wr2 => ∃ j : Nat, j ≤ k ∧ i = .int .i64 j ∧ n = .int .i64 ((2 ^ j : Nat) : Int) ∧ wr2 = wr) (fun _ i _ => k - (intOf i).toNat)
      case atStart => exact ⟨0, by omega, rfl, rfl, rfl⟩
      case round =>
        obtain ⟨j, hj, rfl, rfl, rfl⟩ := hrel
        by_cases hjl : j < k
        · have hp := HPW.out j (by omega)
          have HE := Lib.hid (HPS.out j)
          generalize 2 ^ j = q at *
          have hw : IntKind.i64.wrap (2 * (q : Int)) = 2 * (q : Int) := by rw [IntKind.wrap_i64]; omega
          go_wp2
          go_roundw
          case rel => exact ⟨j + 1, by omega, by go_num, by rw [HE.out]; first | (congr 1; omega) | (congr 2; omega), by first | rfl | trivial⟩
          case measure => simp [intOf]; omega
        · obtain rfl : j = k := by omega
          have hlf := HLT.out
          generalize 2 ^ j = n at *
          have hge : ¬ n ≤ leaf := by omega
          clear hlf HLT hj hjl hk hlt HPS HPW
          rename World => w
          go_wp2
          go_loopw [10, 11] (fun v i wr => ∃ q : Nat, q ≤ 67 + j ∧ i = .int .i64 ((2 + 32 * q : Nat) : Int) ∧ wr.ownsRow w.heap.size 9 1 v q ((cutL s 2 q).map strV) ∧ Below w.heap.size w wr) (fun _ i _ => s.size - (intOf i).toNat)
          case atStart => exact ⟨0, by omega, rfl, World.ownsRow_nil _ _ _ _, Below.refl _ _⟩
          case round =>
            obtain ⟨q, hq, rfl, hown, hb⟩ := hrel
            obtain ⟨J, hJ⟩ : ∃ J, J = 2 + 32 * q := ⟨_, rfl⟩
            rw [← hJ]
            have hz := HZ.out
            by_cases hlt : q < 67 + j
            · have htk := HTK.out q
              rw [← hJ] at htk
              have hJs : J + 32 ≤ s.size := by omega
              have hJl : J < s.size := by omega
              have hw : IntKind.i64.wrap ((J : Int) + 32) = (J : Int) + 32 := by rw [IntKind.wrap_i64]; omega
              have hJz : (J : Int) + 32 ≤ (s.size : Int) := by omega
              have hJn : ((J : Int) + 32).toNat = J + 32 := by omega
              have HNJ := Lib.hid (show J + 32 = 2 + 32 * (q + 1) by omega)
              have HT1 := Lib.hid htk
              have O2 := Lib.hid hown
              have B2 := Lib.hid hb
              have HC1 : Hid (q + 1 ≤ maxLen) := Lib.hid (by unfold maxLen; omega)
              have HC2 : Hid ((q + 1) * 16 ≤ 140737488355328) := Lib.hid (by omega)
              have HC3 : Hid (∀ o : Obj, w.heap.size ≤ (wr.alloc o).heap.size) := Lib.hid (fun o => by have := B2.out.size; simp; omega)
              have HHZ := Lib.hid hz
              clear htk hown hb hz hJ HTK
              go_wp2_with (at_builtin; refine wpList_append_lies _ rfl _ _ 22 rfl w.heap.size 9 i0 (.string ⟨#[]⟩) 1 16 Tryz.underlying22 hi0 hz0 hz1 hz2 rfl (by omega) _ q _ rfl (O2.out.alloc _) ⟨wr.heap.size, 0, none⟩ 1 1 [strV (s.extract J (J + 32))] rfl rfl (World.news_of_block (cs := #[strV (s.extract J (J + 32))]) (t := 9) (fr := (0, 0)) (heap_alloc_new wr _)) (strV_one _) (by omega) HC1.out HC2.out (HC3.out _) (wr.heap.size + 1) (by simp) ?_)
              intro g3 cap3 w3 hown3 hg3 _ _
              have B3 := Lib.hid ((B2.out.alloc B2.out.size _).grown hg3 (HC3.out _) (fun j hj => (O2.out.lt j hj).1))
              have O3 := Lib.hid hown3
              clear hown3 hg3 O2 B2
              go_wp2
              go_roundw
              case rel => exact ⟨q + 1, by omega, by first | (go_num; done) | (rw [← HNJ.out]; first | rfl | go_num | (congr 1; omega)), by rw [HT1.out, List.map_append]; exact O3.out, B3.out⟩
              case measure => simp [intOf]; omega
            · obtain rfl : q = 67 + j := by omega
              obtain ⟨a2, cap2, rfl, hrow, hcap⟩ := own_strs2 hown (HLN.out _)
              rw [HLN.out] at hcap ⊢
              obtain ⟨g, o, rfl, hgl⟩ := strRow_some hrow (by rw [HLN.out]; omega)
              rw [HAD.out] at hrow
              have HV := Lib.hid (strRow_take hrow)
              have HP := strRow_drop hrow
              rw [HLN.out] at HP
              have HP2 := Lib.hid HP
              have HB := Lib.hid hb
              have hJs : ¬ J < s.size := by omega
              have hc1 : (67 : Int) ≤ (cap2 : Int) := by omega
              have hc2 : 67 ≤ cap2 := by omega
              have hl1 : (67 : Int) ≤ ((67 + j : Nat) : Int) := by omega
              clear hown hrow hb hz hJ HP HTK HZ HVA
              go_wp2
              go_quiet (fail)
              go_wp2
              all_goals
                (try simp only [Exit.inBlock, Exit.then])
                refine bodyPost_ret (results_tmp4 rfl _ _ _) rfl ?_
                first
                | exact ⟨⟨g, o, _, _, ⟨_, rfl⟩, HV.out.below (((Same.refl _).drewN _).below _), HP2.out.below (((Same.refl _).drewN _).below _), hgl⟩, HB.out.trans (((Same.refl _).drewN _).below _)⟩
                | exact ⟨⟨g, o, _, _, ⟨_, rfl⟩, HV.out.below (((Same.refl _).drewN _).below _), .inl (List.eq_nil_of_length_eq_zero (by rw [HLP.out]; omega)), hgl⟩, HB.out.trans (((Same.refl _).drewN _).below _)⟩
end Go.Proofs.YtggfmnmopfdiaaaGreatDoor
