/-
  Contracts of the document's sums: More, bit by bit in a list.
-/
import Derived.Test.YtilddhemngcieaaCr1
import Derived.Test.YtilddhemngcieaaBlk
import Derived.BigRegion
import Derived.BigQuiet
import Derived.Deep.QuietTactic
import Derived.Deep.RegionHeld3
import Derived.Deep.RegionWith
import Derived.WalkSmall
namespace Go.Proofs.Ytilddhemngcieaa
open Go.RowKit Go.Pal Go.Pal.Cr

/-- A register's bits as cells, the lowest first. -/
def cellsR (x : BitVec 32) : List Value := (List.range 32).map fun i => .bool (x.getLsbD i)
theorem cellsR_length (x : BitVec 32) : (cellsR x).length = 32 := by simp [cellsR]
theorem cellsR_get (x : BitVec 32) (i : Nat) (h : i < 32) : (cellsR x)[i]? = some (.bool (x.getLsbD i)) := by
  simp [cellsR, List.getElem?_range h]
theorem cellsR_at (x : BitVec 32) (i : Nat) (h : i < (cellsR x).length) : (cellsR x)[i] = .bool (x.getLsbD i) := by
  simp [cellsR]

theorem testBit_div (m k : Nat) : m.testBit k = decide (m / 2 ^ k % 2 = 1) := Nat.testBit_eq_decide_div_mod_eq
theorem int_div (m k : Nat) : ((m : Int) / 2 ^ k).tmod 2 = ((m / 2 ^ k % 2 : Nat) : Int) := by
  have e : ((m : Int) / 2 ^ k) = ((m / 2 ^ k : Nat) : Int) := by simp
  rw [e]; rfl
theorem bit_zero (x : BitVec 32) (k : Nat) (h : k < 32) : ((v x / 2 ^ k).tmod 2 == 0) = (~~~ x).getLsbD k := by
  rw [BitVec.getLsbD_not, decide_eq_true h, Bool.true_and]
  show (((x.toNat : Int) / 2 ^ k).tmod 2 == 0) = !(x.toNat.testBit k)
  rw [int_div, testBit_div]
  have : x.toNat / 2 ^ k % 2 = 0 ∨ x.toNat / 2 ^ k % 2 = 1 := by omega
  rcases this with h1 | h1 <;> rw [h1] <;> rfl
theorem bit_one (m k : Nat) : (((m : Int) / 2 ^ k).tmod 2 == 1) = m.testBit k := by
  rw [int_div, testBit_div]
  have : m / 2 ^ k % 2 = 0 ∨ m / 2 ^ k % 2 = 1 := by omega
  rcases this with h1 | h1 <;> rw [h1] <;> rfl
theorem bit_poly (k : Nat) : ((3988292384 / 2 ^ k : Int).tmod 2 == 1) = poly.getLsbD k := bit_one 3988292384 k
theorem partL_later (new old : List Value) (k i : Nat) (h : k ≤ new.length) (hi : k ≤ i) : (partL new old k)[i]? = old[i]? := by
  have hl : (new.take k).length = k := by rw [List.length_take]; omega
  unfold partL
  rw [List.getElem?_append_right (by omega), hl, List.getElem?_drop]
  congr 1; omega
theorem partL_same (new old : List Value) (k : Nat) (h : k < new.length) (ho : k < old.length) (e : new[k] = old[k]) : partL new old k = partL new old (k + 1) := by
  rw [← partL_set new old k h ho, e]
  apply List.ext_getElem?
  intro i
  by_cases hi : i = k
  · subst hi
    rw [List.getElem?_set_self (by rw [partL, List.length_append, List.length_take, List.length_drop]; omega), partL_get _ _ _ (by omega), List.getElem?_eq_getElem ho]
  · rw [List.getElem?_set_ne (fun hh => hi hh.symm)]
theorem shr_get (x : BitVec 32) (i : Nat) : (x >>> 1).getLsbD i = x.getLsbD (i + 1) := by rw [BitVec.getLsbD_ushiftRight, Nat.add_comm]
/-- What the step makes of a register and a bit. -/
theorem step_off (x : BitVec 32) (c : Bool) (h : (x.getLsbD 0 != c) = false) : crStep (x ^^^ bit c) = x >>> 1 := by
  apply BitVec.eq_of_getLsbD_eq
  intro i hi
  rw [step_get, BitVec.getLsbD_xor, BitVec.getLsbD_xor, bit_get, bit_get, shr_get, show decide (i + 1 = 0) = false from decide_eq_false (by omega), show decide (0 = 0) = true from rfl]
  cases hx : x.getLsbD 0 <;> cases c <;> rw [hx] at h <;> simp at h ⊢
theorem step_on (x : BitVec 32) (c : Bool) (h : (x.getLsbD 0 != c) = true) (i : Nat) : (crStep (x ^^^ bit c)).getLsbD i = ((x >>> 1).getLsbD i ^^ poly.getLsbD i) := by
  rw [step_get, BitVec.getLsbD_xor, BitVec.getLsbD_xor, bit_get, bit_get, shr_get, show decide (i + 1 = 0) = false from decide_eq_false (by omega), show decide (0 = 0) = true from rfl]
  cases hx : x.getLsbD 0 <;> cases c <;> rw [hx] at h <;> simp at h ⊢
/-- A number out of its bits. -/
theorem num_bits (m k : Nat) : m / 2 ^ k = 2 * (m / 2 ^ (k + 1)) + (if m.testBit k then 1 else 0) := by
  rw [Nat.pow_succ, ← Nat.div_div_eq_div_mul, testBit_div]
  by_cases h : m / 2 ^ k % 2 = 1 <;> simp [h] <;> omega

set_option maxHeartbeats 1000000 in
set_option maxRecDepth 100000 in
theorem refmore_any (sum : BitVec 32) (s : ByteArray) (hs : s.size ≤ maxLen) (w : World) :
    Calls Try.prog 15 #[.int .u32 (v sum), .string s] w fun e w' => e = .returned (.int .u32 (v (moreB sum s))) ∧ Below w.heap.size w w' := by
  unfold maxLen at hs
  have V0 := v_nonneg sum
  have V1 := v_lt sum
  generalize hv : v sum = n at *
  have HV := Lib.hid hv
  clear hv
  go_enter Try.func15, Try.ntmps15
  go_wp2
  go_loopw [6] (fun i wr => ∃ k : Nat, k ≤ 32 ∧ i = .int .i64 k ∧ Blk wr w.heap.size 70 (fill (cellsR (~~~ sum)) 32 (.bool false) k) ∧ Below w.heap.size w wr) (fun i _ => 32 - (intOf i).toNat)
  case atStart =>
    refine ⟨0, by omega, rfl, ?_, (Below.refl _ _).alloc (Nat.le_refl _) _⟩
    show Blk _ _ _ (List.replicate 32 (.bool false))
    exact Blk.new' _ _ _ rfl
  case round =>
    obtain ⟨k, hk, rfl, hB, hb⟩ := hrel
    by_cases hlt : k < 32
    · have f1 := hB.frozen k
      have d1 := (hB.cell k).trans (fill_get _ _ _ _ (by rw [cellsR_length]; omega) hlt)
      have HX := Lib.hid (bit_zero sum k hlt)
      rw [HV.out] at HX
      have HF := Lib.hid (fill_set (cellsR (~~~ sum)) 32 (.bool false) k (by rw [cellsR_length]; omega) hlt)
      rw [cellsR_at] at HF
      have HB := Lib.hid hB
      clear hB
      go_wp2
      go_roundw
      case rel => exact ⟨k + 1, by omega, by go_num, by rw [← HF.out, HX.out]; exact HB.out.set k _, hb.setCell (Nat.le_refl _) _⟩
      case measure => simp [intOf]; omega
    · have hk32 : k = 32 := by omega
      have hf : fill (cellsR (~~~ sum)) 32 (.bool false) 32 = cellsR (~~~ sum) := fill_all (cellsR (~~~ sum)) (.bool false)
      rw [hk32, hf] at hB
      have dk : decide ((k : Int) < 32) = false := decide_eq_false (by omega)
      clear hf V0 V1 hk32 hk hlt
      have HM := Lib.hid (show moreB sum s = ~~~ (crcB (~~~ sum) s.data.toList) from rfl)
      have HT := Lib.hid (crc_take (~~~ sum) s)
      have HA := Lib.hid (show s.data.toList.take s.size = s.data.toList from List.take_of_length_le (by simp))
      have HU := Lib.hid updB_regs
      have HB := Lib.hid hB
      have HBl := Lib.hid hb
      clear hB hb
      go_wp2
      rename World => w1
      go_loopw [7] (fun i wr => ∃ k : Nat, k ≤ s.size ∧ i = .int .i64 k ∧ Blk wr w.heap.size 70 (cellsR (crcB (~~~ sum) (s.data.toList.take k))) ∧ Below w.heap.size w wr) (fun i _ => s.size - (intOf i).toNat)
      case atStart => exact ⟨0, by omega, rfl, HB.out, HBl.out⟩
      case round =>
        obtain ⟨k, hk, rfl, hB2, hb2⟩ := hrel
        by_cases hlt2 : k < s.size
        · have H1 := Lib.hid (HT.out k hlt2)
          generalize crcB (~~~ sum) (s.data.toList.take k) = x at *
          have HB2 := Lib.hid hB2
          have HBl2 := Lib.hid hb2
          clear hB2 hb2 HB HBl
          have hby := s[k].toNat_lt
          go_wp2
          rename World => w2
          go_loopw [8] (fun i wr => ∃ b : Nat, b ≤ 8 ∧ i = .int .i64 b ∧ Blk wr w.heap.size 70 (cellsR (regs x (fun i => s[k].toNat.testBit i) b)) ∧ Below w.heap.size w wr) (fun i _ => 8 - (intOf i).toNat)
          case atStart => exact ⟨0, by omega, rfl, HB2.out, HBl2.out⟩
          case round =>
            obtain ⟨b, hb8, rfl, hB3, hb3⟩ := hrel
            by_cases hlt3 : b < 8
            · have HRG := Lib.hid (show regs x (fun i => s[k].toNat.testBit i) (b + 1) = crStep (regs x (fun i => s[k].toNat.testBit i) b ^^^ bit (s[k].toNat.testBit b)) from rfl)
              generalize regs x (fun i => s[k].toNat.testBit i) b = y at *
              have c0 := (hB3.cell 0).trans (cellsR_get y 0 (by omega))
              have db : decide ((b : Int) < 8) = true := decide_eq_true (by omega)
              have HB3 := Lib.hid hB3
              have HBl3 := Lib.hid hb3
              clear hB3 hb3 HB2 HBl2
              have hbit := bit_one s[k].toNat b
              have HOFF := Lib.hid (step_off y (s[k].toNat.testBit b))
              have HON := Lib.hid (step_on y (s[k].toNat.testBit b))
              generalize s[k].toNat.testBit b = c at *
              generalize y.getLsbD 0 = y0 at *
              have HNG := Lib.hid (fun i (hi : i < 31) => shr_get y i)
              have HNL := Lib.hid (show (y >>> 1).getLsbD 31 = false by rw [shr_get]; exact BitVec.getLsbD_of_ge y 32 (by decide))
              go_wp2
              go_region
              rename World => w3
              go_wp2
              go_loopw [10] (fun i wr => ∃ j : Nat, j ≤ 31 ∧ i = .int .i64 j ∧ Blk wr w.heap.size 70 (partL (cellsR (y >>> 1)) (cellsR y) j) ∧ Below w.heap.size w wr) (fun i _ => 31 - (intOf i).toNat)
              case atStart => exact ⟨0, by omega, rfl, by rw [partL_zero]; exact HB3.out.drew, HBl3.out.drew⟩
              case round =>
                obtain ⟨j, hj, rfl, hB4, hb4⟩ := hrel
                by_cases hlt4 : j < 31
                · have d1 := (hB4.cell (j + 1)).trans ((partL_later _ _ _ _ (by rw [cellsR_length]; omega) (by omega)).trans (cellsR_get y (j + 1) (by omega)))
                  have d0 := (hB4.cell j).trans ((partL_later _ _ _ _ (by rw [cellsR_length]; omega) (by omega)).trans (cellsR_get y j (by omega)))
                  have f0 := hB4.frozen j
                  have HS := Lib.hid (partL_set (cellsR (y >>> 1)) (cellsR y) j (by rw [cellsR_length]; omega) (by rw [cellsR_length]; omega))
                  rw [cellsR_at, shr_get] at HS
                  have HB4 := Lib.hid hB4
                  have HBl4 := Lib.hid hb4
                  clear hB4 hb4
                  go_wp2
                  go_roundw
                  case rel => exact ⟨j + 1, by omega, by go_num, by rw [← HS.out]; exact HB4.out.set j _, HBl4.out.setCell (Nat.le_refl _) _⟩
                  case measure => simp [intOf]; omega
                · have hj31 : j = 31 := by omega
                  rw [hj31] at hB4
                  have dj : decide ((j : Int) < 31) = false := decide_eq_false (by omega)
                  clear hj31 hj hlt4
                  have d0 := (hB4.cell 31).trans ((partL_later _ _ _ _ (by rw [cellsR_length]; omega) (by omega)).trans (cellsR_get y 31 (by omega)))
                  have f0 := hB4.frozen 31
                  have HS := Lib.hid (partL_set (cellsR (y >>> 1)) (cellsR y) 31 (by rw [cellsR_length]; omega) (by rw [cellsR_length]; omega))
                  rw [cellsR_at, HNL.out] at HS
                  have HP := Lib.hid (partL_all (cellsR (y >>> 1)) (cellsR y) (by rw [cellsR_length, cellsR_length]))
                  rw [cellsR_length] at HP
                  have HB5 := Lib.hid (hB4.set 31 (.bool false))
                  have HBl5 := Lib.hid (hb4.setCell (p := ⟨w.heap.size, 31, none⟩) (Nat.le_refl _) (.bool false))
                  rw [HS.out, HP.out] at HB5
                  clear hB4 hb4 HS HP HB3 HBl3 HNG HNL
                  generalize y >>> 1 = z at *
                  cases y0 <;> cases c
                  · have HST := Lib.hid (HOFF.out rfl)
                    clear HOFF HON
                    go_wp2
                    rename World => w4
                    go_loopw [11] (fun i wr => i = .int .i64 0 ∧ Blk wr w.heap.size 70 (cellsR z) ∧ Below w.heap.size w wr) (fun _ _ => 0)
                    case atStart => exact ⟨rfl, HB5.out, HBl5.out⟩
                    case round =>
                      obtain ⟨rfl, hB6, hb6⟩ := hrel
                      have HB6 := Lib.hid hB6
                      have HBl6 := Lib.hid hb6
                      clear hB6 hb6
                      go_wp2
                      go_roundw
                      case rel => exact ⟨b + 1, by omega, by go_num, by rw [HRG.out, HST.out]; exact HB6.out, HBl6.out⟩
                      case measure => simp [intOf]; omega
                  · have HST := Lib.hid (HON.out rfl)
                    clear HOFF HON
                    generalize hY : crStep (y ^^^ bit true) = Y at *
                    clear hY
                    go_wp2
                    rename World => w4
                    rw [show (!(false == true)) = true from rfl]
                    go_loopw [11] (fun i wr => ∃ j : Nat, j ≤ 32 ∧ i = .int .i64 j ∧ Blk wr w.heap.size 70 (partL (cellsR Y) (cellsR z) j) ∧ Below w.heap.size w wr) (fun i _ => 32 - (intOf i).toNat)
                    case atStart => exact ⟨0, by omega, rfl, by rw [partL_zero]; exact HB5.out, HBl5.out⟩
                    case round =>
                      obtain ⟨q, hq, rfl, hB6, hb6⟩ := hrel
                      by_cases hlt6 : q < 32
                      · have hl1 : q < (cellsR Y).length := by rw [cellsR_length]; omega
                        have hl2 : q < (cellsR z).length := by rw [cellsR_length]; omega
                        have d0 := (hB6.cell q).trans ((partL_get _ _ _ (Nat.le_of_lt hl1)).trans (cellsR_get z q (by omega)))
                        have f0 := hB6.frozen q
                        have HS := Lib.hid (partL_set (cellsR Y) (cellsR z) q hl1 hl2)
                        have HSM := Lib.hid (partL_same (cellsR Y) (cellsR z) q hl1 hl2)
                        rw [cellsR_at, HST.out q] at HS
                        rw [cellsR_at, cellsR_at, HST.out q] at HSM
                        have hp := bit_poly q
                        have HB6 := Lib.hid hB6
                        have HBl6 := Lib.hid hb6
                        clear hB6 hb6 hl1 hl2
                        generalize poly.getLsbD q = pq at *
                        cases pq
                        · go_wp2
                          go_roundw
                          case rel => exact ⟨q + 1, by omega, by go_num, by rw [← HSM.out (by simp)]; exact HB6.out, HBl6.out⟩
                          case measure => simp [intOf]; omega
                        · go_wp2
                          go_roundw
                          case rel => exact ⟨q + 1, by omega, by go_num, by rw [← HS.out, Bool.xor_true]; exact HB6.out.set q _, HBl6.out.setCell (Nat.le_refl _) _⟩
                          case measure => simp [intOf]; omega
                      · obtain rfl : q = 32 := by omega
                        have hP := partL_all (cellsR Y) (cellsR z) (by rw [cellsR_length, cellsR_length])
                        rw [cellsR_length] at hP
                        rw [hP] at hB6
                        have HB6 := Lib.hid hB6
                        have HBl6 := Lib.hid hb6
                        clear hB6 hb6 hP
                        go_wp2
                        go_roundw
                        case rel => exact ⟨b + 1, by omega, by go_num, by rw [HRG.out]; exact HB6.out, HBl6.out⟩
                        case measure => simp [intOf]; omega
                  · have HST := Lib.hid (HON.out rfl)
                    clear HOFF HON
                    generalize hY : crStep (y ^^^ bit false) = Y at *
                    clear hY
                    go_wp2
                    rename World => w4
                    rw [show (!(true == false)) = true from rfl]
                    go_loopw [11] (fun i wr => ∃ j : Nat, j ≤ 32 ∧ i = .int .i64 j ∧ Blk wr w.heap.size 70 (partL (cellsR Y) (cellsR z) j) ∧ Below w.heap.size w wr) (fun i _ => 32 - (intOf i).toNat)
                    case atStart => exact ⟨0, by omega, rfl, by rw [partL_zero]; exact HB5.out, HBl5.out⟩
                    case round =>
                      obtain ⟨q, hq, rfl, hB6, hb6⟩ := hrel
                      by_cases hlt6 : q < 32
                      · have hl1 : q < (cellsR Y).length := by rw [cellsR_length]; omega
                        have hl2 : q < (cellsR z).length := by rw [cellsR_length]; omega
                        have d0 := (hB6.cell q).trans ((partL_get _ _ _ (Nat.le_of_lt hl1)).trans (cellsR_get z q (by omega)))
                        have f0 := hB6.frozen q
                        have HS := Lib.hid (partL_set (cellsR Y) (cellsR z) q hl1 hl2)
                        have HSM := Lib.hid (partL_same (cellsR Y) (cellsR z) q hl1 hl2)
                        rw [cellsR_at, HST.out q] at HS
                        rw [cellsR_at, cellsR_at, HST.out q] at HSM
                        have hp := bit_poly q
                        have HB6 := Lib.hid hB6
                        have HBl6 := Lib.hid hb6
                        clear hB6 hb6 hl1 hl2
                        generalize poly.getLsbD q = pq at *
                        cases pq
                        · go_wp2
                          go_roundw
                          case rel => exact ⟨q + 1, by omega, by go_num, by rw [← HSM.out (by simp)]; exact HB6.out, HBl6.out⟩
                          case measure => simp [intOf]; omega
                        · go_wp2
                          go_roundw
                          case rel => exact ⟨q + 1, by omega, by go_num, by rw [← HS.out, Bool.xor_true]; exact HB6.out.set q _, HBl6.out.setCell (Nat.le_refl _) _⟩
                          case measure => simp [intOf]; omega
                      · obtain rfl : q = 32 := by omega
                        have hP := partL_all (cellsR Y) (cellsR z) (by rw [cellsR_length, cellsR_length])
                        rw [cellsR_length] at hP
                        rw [hP] at hB6
                        have HB6 := Lib.hid hB6
                        have HBl6 := Lib.hid hb6
                        clear hB6 hb6 hP
                        go_wp2
                        go_roundw
                        case rel => exact ⟨b + 1, by omega, by go_num, by rw [HRG.out]; exact HB6.out, HBl6.out⟩
                        case measure => simp [intOf]; omega
                  · have HST := Lib.hid (HOFF.out rfl)
                    clear HOFF HON
                    go_wp2
                    rename World => w4
                    go_loopw [11] (fun i wr => i = .int .i64 0 ∧ Blk wr w.heap.size 70 (cellsR z) ∧ Below w.heap.size w wr) (fun _ _ => 0)
                    case atStart => exact ⟨rfl, HB5.out, HBl5.out⟩
                    case round =>
                      obtain ⟨rfl, hB6, hb6⟩ := hrel
                      have HB6 := Lib.hid hB6
                      have HBl6 := Lib.hid hb6
                      clear hB6 hb6
                      go_wp2
                      go_roundw
                      case rel => exact ⟨b + 1, by omega, by go_num, by rw [HRG.out, HST.out]; exact HB6.out, HBl6.out⟩
                      case measure => simp [intOf]; omega
            · obtain rfl : b = 8 := by omega
              have hx : cellsR (regs x (fun i => s[k].toNat.testBit i) 8) = cellsR (crcB (~~~ sum) (s.data.toList.take (k + 1))) := by
                rw [H1.out, ← HU.out]; rfl
              rw [hx] at hB3
              have HB3 := Lib.hid hB3
              have HBl3 := Lib.hid hb3
              clear hB3 hb3 hx
              go_wp2
              go_roundw
              case rel => exact ⟨k + 1, by omega, by go_num, HB3.out, HBl3.out⟩
              case measure => simp [intOf]; omega
        · obtain rfl : k = s.size := by omega
          rw [HA.out] at hB2
          have HNB := Lib.hid (fun i (hi : i < 32) => show (~~~ (crcB (~~~ sum) s.data.toList)).getLsbD i = !((crcB (~~~ sum) s.data.toList).getLsbD i) by rw [BitVec.getLsbD_not, decide_eq_true hi, Bool.true_and])
          have HM2 := Lib.hid (show v (moreB sum s) = ((~~~ (crcB (~~~ sum) s.data.toList)).toNat : Int) from rfl)
          have hm := (~~~ (crcB (~~~ sum) s.data.toList)).isLt
          have HTB := Lib.hid (fun i => show (~~~ (crcB (~~~ sum) s.data.toList)).getLsbD i = (~~~ (crcB (~~~ sum) s.data.toList)).toNat.testBit i from rfl)
          generalize crcB (~~~ sum) s.data.toList = x at *
          generalize (~~~ x).toNat = m at *
          have HB2 := Lib.hid hB2
          have HBl2 := Lib.hid hb2
          clear hB2 hb2 HB HBl HT HA HU HM hk hlt2
          go_wp2
          rename World => w2
          go_loop [12, 13] (fun X i => ∃ j : Nat, j ≤ 32 ∧ i = .int .i64 ((j : Int) - 1) ∧ X = .int .u32 ((m / 2 ^ j : Nat) : Int)) (fun _ i => (intOf i + 1).toNat)
          case atStart =>
            refine ⟨32, by omega, rfl, ?_⟩
            rw [Nat.div_eq_of_lt (by simpa using hm)]; rfl
          case round =>
            obtain ⟨j, hj, rfl, rfl⟩ := hrel
            cases j with
            | zero =>
              go_wp2
              go_ret
              exact ⟨by rw [HM2.out]; simp, HBl2.out⟩
            | succ q =>
              have c0 := (HB2.out.cell q).trans (cellsR_get x q (by omega))
              have HNQ := Lib.hid ((HNB.out q (by omega)).symm.trans (HTB.out q))
              have HNM := Lib.hid (num_bits m q)
              have e1 : ((q + 1 : Nat) : Int) - 1 = q := by omega
              rw [e1]
              have hlm : m / 2 ^ (q + 1) ≤ 2147483647 := by
                have : m / 2 ^ (q + 1) ≤ m / 2 := by
                  rw [Nat.pow_succ, Nat.mul_comm, ← Nat.div_div_eq_div_mul]
                  exact Nat.div_le_self _ _
                omega
              generalize m / 2 ^ (q + 1) = h at *
              generalize x.getLsbD q = xq at *
              cases xq
              · have HQ := Lib.hid (show m / 2 ^ q = 2 * h + 1 by rw [HNM.out, ← HNQ.out]; rfl)
                clear HNM HNQ e1
                go_wp2
                go_round
                case rel => exact ⟨q, by omega, by go_num, by rw [HQ.out]; go_num⟩
                case measure => simp [intOf]
              · have HQ := Lib.hid (show m / 2 ^ q = 2 * h by rw [HNM.out, ← HNQ.out]; rfl)
                clear HNM HNQ e1
                go_wp2
                go_round
                case rel => exact ⟨q, by omega, by go_num, by rw [HQ.out]; go_num⟩
                case measure => simp [intOf]
end Go.Proofs.Ytilddhemngcieaa
