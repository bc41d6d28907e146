/-
  The contract of the document's own Make.
-/
import Derived.Test.YtbipmeogcmmhhaaBl5
namespace Go.Pal
open Go.RowKit
def setV (f : Nat → Bool) (m : Nat) : List Value := (List.range m).map fun q => Value.bool (f q)
theorem setV_get (f : Nat → Bool) (m q : Nat) (h : q < m) : (setV f m)[q]? = some (.bool (f q)) := by simp [setV, h]
theorem setV_put (f : Nat → Bool) (m p : Nat) : (setV f m).set p (.bool true) = setV (putB f p) m := by
  apply List.ext_getElem?
  intro j
  by_cases hj : j < m
  · rw [List.getElem?_set, setV_get _ _ _ hj, setV_get _ _ _ hj]
    split
    · rename_i h; subst h; simp [setV, hj, putB]
    · rename_i h; have : (j == p) = false := by simp; omega
      simp [putB, this]
  · rw [List.getElem?_eq_none (by simp [setV]; omega), List.getElem?_eq_none (by simp [setV]; omega)]
theorem setV_none (m : Nat) : setV (fun _ => false) m = List.replicate m (Value.bool false) := by
  apply List.ext_getElem?
  intro j
  by_cases hj : j < m
  · rw [setV_get _ _ _ hj, List.getElem?_replicate, if_pos hj]
  · rw [List.getElem?_eq_none (by simp [setV]; omega), List.getElem?_eq_none (by simp; omega)]
/-- The first bits alone. -/
def cutB (f : Nat → Bool) (i : Nat) : Nat → Bool := fun q => f q && decide (q < i)
theorem cutB_zero (f : Nat → Bool) : cutB f 0 = fun _ => false := by funext q; simp [cutB]
theorem cutB_yes (f : Nat → Bool) (i : Nat) (h : f i = true) : cutB f (i + 1) = putB (cutB f i) i := by
  funext q
  by_cases hq : q = i
  · subst hq; simp [cutB, putB, h]
  · have e1 : (q == i) = false := by simp [hq]
    have e2 : decide (q < i + 1) = decide (q < i) := by rw [decide_eq_decide]; omega
    simp [cutB, putB, e1, e2]
theorem cutB_no (f : Nat → Bool) (i : Nat) (h : f i = false) : cutB f (i + 1) = cutB f i := by
  funext q
  by_cases hq : q = i
  · subst hq; simp [cutB, h]
  · have e2 : decide (q < i + 1) = decide (q < i) := by rw [decide_eq_decide]; omega
    simp [cutB, e2]
theorem cutB_self (f : Nat → Bool) (i : Nat) : cutB f i i = false := by simp [cutB]
theorem cutB_all (f : Nat → Bool) (n : Nat) : bitsB (cutB f (8 * n)) n = bitsB f n := by
  unfold bitsB
  rw [bitsL_congr (g := f) fun q hq => by simp [cutB, hq]]
theorem addOf (i : Nat) (hi : i < 8) (b0 b1 b2 b3 b4 b5 b6 b7 : Bool) (h : [b0, b1, b2, b3, b4, b5, b6, b7].getD i false = false) : byteOf b0 b1 b2 b3 b4 b5 b6 b7 + 2 ^ i = byteOf (b0 || i == 0) (b1 || i == 1) (b2 || i == 2) (b3 || i == 3) (b4 || i == 4) (b5 || i == 5) (b6 || i == 6) (b7 || i == 7) := by
  revert b0 b1 b2 b3 b4 b5 b6 b7
  have : ∀ i, i < 8 → ∀ b0 b1 b2 b3 b4 b5 b6 b7 : Bool, [b0, b1, b2, b3, b4, b5, b6, b7].getD i false = false → byteOf b0 b1 b2 b3 b4 b5 b6 b7 + 2 ^ i = byteOf (b0 || i == 0) (b1 || i == 1) (b2 || i == 2) (b3 || i == 3) (b4 || i == 4) (b5 || i == 5) (b6 || i == 6) (b7 || i == 7) := by decide +kernel
  exact this i hi
theorem byte8_add (f : Nat → Bool) (p : Nat) (hf : f p = false) : byte8 f (p / 8) + 2 ^ (p % 8) = byte8 (putB f p) (p / 8) := by
  have e : ∀ i, i < 8 → (8 * (p / 8) + i == p) = (p % 8 == i) := fun i hi => by
    rw [Bool.eq_iff_iff]; simp; omega
  have e0 := e 0 (by omega)
  have hb := byte8_bit f p
  rw [hf, byte8, bitOf _ (Nat.mod_lt _ (by omega))] at hb
  simp only [Nat.add_zero] at e0
  simp only [byte8, putB, e0, e 1 (by omega), e 2 (by omega), e 3 (by omega), e 4 (by omega), e 5 (by omega), e 6 (by omega), e 7 (by omega)]
  exact addOf (p % 8) (Nat.mod_lt _ (by omega)) _ _ _ _ _ _ _ _ hb
theorem u8_add (f : Nat → Bool) (p : Nat) (hf : f p = false) : ((byte8 f (p / 8) : Nat) : Int) + (2 : Int) ^ (p % 8) % 256 = ((byte8 (putB f p) (p / 8) : Nat) : Int) := by
  rw [pow8 _ (Nat.mod_lt _ (by decide)), ← byte8_add f p hf]; omega
end Go.Pal
namespace Go.Proofs.Ytbipmeogcmmhhaa
open Go.RowKit Go.Pal
set_option linter.unusedVariables false

set_option maxHeartbeats 4000000 in
set_option maxRecDepth 100000 in
theorem refmake_any {w : World} {a : Option Addr} {cap : Nat} {ids : List ByteArray} (h : StrRow w a ids) (hl : ids.length ≤ 1000000) :
    Calls Try.prog 44 #[.slice a ids.length cap] w fun e w' => e = .returned (.string (makeB ids)) ∧ Below w.heap.size w w' := by
  have HR := Lib.hid (fun W (hb : Below w.heap.size w W) h0 => bRow_some (h.below hb) h0)
  have HCT := Lib.hid (cntB_take ids)
  have HAL := Lib.hid (show cntB (ids.take ids.length) = cntB ids by rw [List.take_length])
  have hsz := sizeB_le (cntB ids)
  have HMB := Lib.hid (show makeB ids = bitsB (growB ids (sizeB (cntB ids))) (sizeB (cntB ids) / 8) by rw [growB_eq]; rfl)
  have HSIZE := Lib.hid (refsize_any (cntB ids) w)
  generalize sizeB (cntB ids) = m at *
  obtain ⟨n, hn⟩ : ∃ n, n = m / 8 := ⟨_, rfl⟩
  have hq : (m : Int) / 8 = (n : Int) := by omega
  have hmk := makeO m (by omega) w
  have HMK := Lib.hid (fun W => makeY n (by omega) W)
  have hwn : wrap64 (n : Int) = n := w64 _ (by omega) (by omega)
  have HMN := Lib.hid (show m = 8 * n ∧ 64 ≤ m ∧ m ≤ 4096 by omega)
  rw [← hn] at HMB
  have HGT := Lib.hid (growB_take ids m)
  have HGA := Lib.hid (show growB (ids.take ids.length) m = growB ids m by rw [List.take_length])
  have HB0 : Hid (Blk (w.alloc (.cells (List.replicate m (Value.bool false)).toArray 4)) w.heap.size 4 (setV (growB (ids.take 0) m) m)) := Lib.hid (by
    rw [show growB (ids.take 0) m = fun _ => false from rfl, setV_none]; exact Blk.new _ _ _)
  have HQ := Lib.hid hq
  have HWN := Lib.hid hwn
  clear h hsz hn hq hwn
  go_enter Try.func44, Try.ntmps44
  go_wp2
  go_loop [3, 4] (fun c i => ∃ k : Nat, k ≤ ids.length ∧ i = .int .i64 k ∧ c = .int .i64 (cntB (ids.take k) : Nat)) (fun _ i => ids.length - (intOf i).toNat)
  case atStart => exact ⟨0, Nat.zero_le _, rfl, rfl⟩
  case round =>
    obtain ⟨k, hk, rfl, rfl⟩ := hrel
    by_cases hlt : k < ids.length
    · obtain ⟨b, off, rfl, _, hc⟩ := HR.out w (Below.refl _ _) (by omega)
      have ck := hc k hlt
      have HC := Lib.hid (HCT.out k hlt)
      have hle := cntB_le (ids.take k)
      have hlk : (ids.take k).length ≤ k := List.length_take_le _ _
      clear hc hmk
      generalize ids[k] = x at *
      by_cases he : x.size = 32
      · have d1 : ((x.size : Int) == 32) = true := by simp; omega
        go_wp2
        go_round
        case rel => exact ⟨k + 1, by omega, by go_num, by rw [HC.out, if_pos he]; go_num⟩
        case measure => simp [intOf]; omega
      · have d1 : ((x.size : Int) == 32) = false := by simp; omega
        go_wp2
        go_round
        case rel => exact ⟨k + 1, by omega, by go_num, by rw [HC.out, if_neg he]; rfl⟩
        case measure => simp [intOf]; omega
    · obtain rfl : k = ids.length := by omega
      rw [HAL.out]
      go_wp2_with (go_at_call 41; refine HSIZE.out.mono ?_; rintro e w1 ⟨rfl, rfl⟩)
      go_loopw [7] (fun i wr => ∃ k : Nat, k ≤ ids.length ∧ i = .int .i64 k ∧ Blk wr w.heap.size 4 (setV (growB (ids.take k) m) m) ∧ Below w.heap.size w wr) (fun i _ => ids.length - (intOf i).toNat)
      case atStart => exact ⟨0, Nat.zero_le _, rfl, HB0.out, (Below.refl _ _).alloc (Nat.le_refl _) _⟩
      case round =>
        obtain ⟨k, hk, rfl, hB, hb⟩ := hrel
        clear hmk
        by_cases hlt : k < ids.length
        · obtain ⟨b, off, rfl, _, hc⟩ := HR.out wr hb (by omega)
          have ck := hc k hlt
          have HF := Lib.hid (HGT.out k hlt)
          have HB := Lib.hid hB
          have HBE := Lib.hid hb
          clear hc hB hb
          generalize ids[k] = x at *
          generalize growB (ids.take k) m = f at *
          cases hpl : placedB x m with
          | false =>
            have HNO := Lib.hid (fun W => refplaces_no x m hpl W)
            have HFN := Lib.hid (show growB (ids.take (k + 1)) m = f by rw [HF.out, placesB_no hpl]; rfl)
            clear hpl
            go_wp2_with (go_at_call 39; refine (HNO.out _).mono ?_; rintro e w1 ⟨rfl, rfl⟩)
            refine wp_loop_rounds 1 ?_
            rw [rounds_succ]
            go_wp2
            go_roundw
            case rel => exact ⟨k + 1, by omega, by go_num, by rw [HFN.out]; exact HB.out, HBE.out⟩
            case measure => simp [intOf]; omega
          | true =>
            have h' : x.size = 32 ∧ 1 ≤ (m : Int) ∧ (m : Int) ≤ 4096 := of_decide_eq_true hpl
            have HYES := Lib.hid (fun W => refplaces_yes x m h'.1 (by omega) (by omega) W)
            have HFY := Lib.hid (show growB (ids.take (k + 1)) m = growI f x m 4 by rw [HF.out, growI_four f x m hpl])
            have HIS := Lib.hid (fun c hc => growI_succ f x m c hpl hc)
            have HLT := Lib.hid (fun c => placeB_lt x m c (by omega))
            clear hpl h'
            rename World => wo
            go_wp2_with (go_at_call 39; refine (HYES.out _).mono ?_; rintro e w1 ⟨g, rfl, hg, hgl, hb1⟩; have HG1 := Lib.hid hg; have HB1 := Lib.hid (HB.out.below hb1 HB.out.lt); have HBE1 := Lib.hid (HBE.out.trans (hb1.mono HBE.out.size)); have HGL := Lib.hid (Nat.ne_of_lt (Nat.lt_of_lt_of_le HB.out.lt hgl)); clear hg hgl hb1)
            go_loopw [9] (fun j wr => ∃ c : Nat, c ≤ 4 ∧ j = .int .i64 c ∧ Blk wr w.heap.size 4 (setV (growI f x m c) m) ∧ Blk wr g 3 (plV x m) ∧ Below w.heap.size w wr) (fun j _ => 4 - (intOf j).toNat)
            case atStart => exact ⟨0, Nat.zero_le _, rfl, HB1.out, HG1.out, HBE1.out⟩
            case round =>
              obtain ⟨c, hc4, rfl, hB, hG, hb⟩ := hrel
              by_cases hcl : c < 4
              · have cg : wr.cell? ⟨g, c, none⟩ = some (.int .i64 (placeB x m c : Nat)) := by rw [hG.cell, plV_get x m c hcl]
                have hp := HLT.out c
                have hFS := HIS.out c hcl
                generalize placeB x m c = p at *
                generalize growI f x m c = F at *
                have cb : wr.cell? ⟨w.heap.size, p, none⟩ = some (.bool (F p)) := by rw [hB.cell, setV_get F m p hp]
                have HV := Lib.hid (setV_put F m p)
                have HFS := Lib.hid hFS
                have HB2 := Lib.hid hB
                have HG2 := Lib.hid hG
                have HBE2 := Lib.hid hb
                have j1 : (p : Int) < (m : Int) := by omega
                have fb : wr.frozen? ⟨w.heap.size, p, none⟩ = false := hB.frozen p
                clear hp hFS hB hG hb ck
                have HK := Lib.hid hk
                have HLT2 := Lib.hid hlt
                have HC4 := Lib.hid hc4
                clear hk hlt hc4 hl
                go_wp2
                go_roundw
                case rel =>
                  refine ⟨c + 1, by omega, by go_num, ?_, (HG2.out.other (Ne.symm HGL.out) _), ?_⟩
                  · rw [HFS.out, ← HV.out]
                    exact (HB2.out.set p _)
                  · exact (HBE2.out.setCell (Nat.le_refl _) _)
                case measure => simp [intOf]; omega
              · obtain rfl : c = 4 := by omega
                have HB2 := Lib.hid hB
                have HBE2 := Lib.hid hb
                clear hB hG hb
                go_wp2
                go_roundw
                case rel => exact ⟨k + 1, by omega, by go_num, by rw [HFY.out]; exact HB2.out, HBE2.out⟩
                case measure => simp [intOf]; omega
        · obtain rfl : k = ids.length := by omega
          rw [HGA.out] at hB
          generalize growB ids m = f at *
          have hmk2 := HMK.out wr
          have hq := HQ.out
          have hwn := HWN.out
          have HB1 := Lib.hid (hB.alloc (.cells (List.replicate n (Value.int .u8 0)).toArray 5))
          have HD1 : Hid (Blk (wr.alloc (.cells (List.replicate n (Value.int .u8 0)).toArray 5)) wr.heap.size 5 (byV (cutB f 0) n)) := Lib.hid (by rw [cutB_zero, byV_none]; exact Blk.new _ _ _)
          have HBE1 := Lib.hid (hb.alloc hb.size (.cells (List.replicate n (Value.int .u8 0)).toArray 5))
          have HSD := Lib.hid (Nat.ne_of_lt hB.lt)
          have HDL := Lib.hid hb.size
          have HTX := Lib.hid (fun W D h => text_bits W D (cutB f (8 * n)) n n h)
          clear hB hb
          rename World => wo
          go_wp2
          go_loopw [11] (fun j wr => ∃ i : Nat, i ≤ m ∧ j = .int .i64 i ∧ Blk wr w.heap.size 4 (setV f m) ∧ Blk wr wo.heap.size 5 (byV (cutB f i) n) ∧ Below w.heap.size w wr) (fun j _ => m - (intOf j).toNat)
          case atStart => exact ⟨0, Nat.zero_le _, rfl, HB1.out, HD1.out, HBE1.out⟩
          case round =>
            clear hmk2 hq hwn
            obtain ⟨i, hi, rfl, hB, hD, hb⟩ := hrel
            have hm4 : m ≤ 4096 := HMN.out.2.2
            by_cases hil : i < m
            · have cs : wr.cell? ⟨w.heap.size, i, none⟩ = some (.bool (f i)) := by rw [hB.cell, setV_get f m i hil]
              have i1 : (i : Int) < (m : Int) := by omega
              cases hfi : f i with
              | false =>
                have HF := Lib.hid (cutB_no f i hfi)
                rw [hfi] at cs
                have HB2 := Lib.hid hB
                have HD2 := Lib.hid hD
                have HBE2 := Lib.hid hb
                clear hfi hB hD hb
                go_wp2
                go_roundw
                case rel => exact ⟨i + 1, by omega, by go_num, HB2.out, by rw [HF.out]; exact HD2.out, HBE2.out⟩
                case measure => simp [intOf]; omega
              | true =>
                have hFS := cutB_yes f i hfi
                rw [hfi] at cs
                have hs := cutB_self f i
                generalize cutB f i = F at *
                obtain ⟨j, hj⟩ : ∃ j, j = i / 8 := ⟨_, rfl⟩
                obtain ⟨r, hr⟩ : ∃ r, r = i % 8 := ⟨_, rfl⟩
                have hjn : j < n := by have := HMN.out; omega
                have cb : wr.cell? ⟨wo.heap.size, j, none⟩ = some (.int .u8 (byte8 F j : Nat)) := by rw [hD.cell, byV_get F n j hjn]
                have q1 : (i : Int) / 8 = (j : Int) := by omega
                have q2 : (i : Int) % 8 = (r : Int) := by omega
                have hw := u8_add F i hs
                have hv := byV_put F n i
                have hlt8 := byte8_lt (putB F i) (i / 8)
                rw [← hj] at hw hv hlt8
                rw [← hr] at hw
                have hwu : ((byte8 F j : Nat) + (2 : Int) ^ r) % 256 = ((byte8 (putB F i) j : Nat) : Int) := by generalize (2 : Int) ^ r = q at *; omega
                have HW := Lib.hid hw
                have HWU := Lib.hid hwu
                have HV := Lib.hid hv
                have HFS := Lib.hid hFS
                have HB2 := Lib.hid hB
                have HD2 := Lib.hid hD
                have HBE2 := Lib.hid hb
                have hr8 : r < 8 := by omega
                have wj : IntKind.i64.wrap (j : Int) = j := by have := HMN.out; rw [IntKind.wrap_i64]; omega
                have j1 : (j : Int) < (n : Int) := by omega
                have fb : wr.frozen? ⟨wo.heap.size, j, none⟩ = false := hD.frozen j
                have HK := Lib.hid hi
                have HLT2 := Lib.hid hil
                clear hj hr hw hv hFS hB hD hb hjn hwu hlt8 hs hi hil hk hlt hl hfi
                go_wp2
                go_region
                go_wp2
                go_roundw
                case rel =>
                  refine ⟨i + 1, by have := HLT2.out; omega, by go_num, HB2.out.other HSD.out _, ?_, ?_⟩
                  · rw [HFS.out, ← HV.out, ← HWU.out]
                    exact (HD2.out.set j _).drew
                  · exact below_drew (HBE2.out.setCell HDL.out _)
                case measure => have := HLT2.out; simp [intOf]; omega
            · obtain rfl : i = m := by omega
              rw [HMN.out.1] at hD
              have ht := HTX.out _ _ hD
              rw [cutB_all, ← HMB.out] at ht
              have HBE2 := Lib.hid hb
              clear hB hb hD
              go_wp2
              go_ret
              exact ⟨rfl, HBE2.out⟩
end Go.Proofs.Ytbipmeogcmmhhaa
