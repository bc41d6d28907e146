/-
  The contract of bloom.Make.
-/
import Derived.Test.YtbipmeogcmmhhaaBl4
namespace Go.Proofs.Ytbipmeogcmmhhaa
open Go.RowKit Go.Pal
set_option linter.unusedVariables false

theorem plV_get (id : ByteArray) (m : Int) (k : Nat) (h : k < 4) : (plV id m)[k]? = some (.int .i64 (placeB id m k : Nat)) := by
  match k, h with
  | 0, _ => rfl
  | 1, _ => rfl
  | 2, _ => rfl
  | 3, _ => rfl
/-- The bits with the first places of one more id. -/
def growI (f : Nat → Bool) (id : ByteArray) (m : Int) (k : Nat) : Nat → Bool := ((placesB id m).take k).foldl putB f
theorem growI_zero (f : Nat → Bool) (id : ByteArray) (m : Int) : growI f id m 0 = f := rfl
theorem growI_succ (f : Nat → Bool) (id : ByteArray) (m : Int) (k : Nat) (hp : placedB id m = true) (h : k < 4) : growI f id m (k + 1) = putB (growI f id m k) (placeB id m k) := by
  unfold growI
  rw [placesB_yes hp]
  match k, h with
  | 0, _ => rfl
  | 1, _ => rfl
  | 2, _ => rfl
  | 3, _ => rfl
theorem growI_four (f : Nat → Bool) (id : ByteArray) (m : Int) (hp : placedB id m = true) : growI f id m 4 = (placesB id m).foldl putB f := by
  unfold growI
  rw [placesB_yes hp]; rfl

set_option maxHeartbeats 4000000 in
set_option maxRecDepth 100000 in
theorem make_any {w : World} {a : Option Addr} {cap : Nat} {ids : List ByteArray} (h : StrRow w a ids) (hl : ids.length ≤ 1000000) :
    Calls Try.prog 43 #[.slice a ids.length cap] w fun e w' => e = .returned (.string (makeB ids)) ∧ Below w.heap.size w w' := by
  have HR := Lib.hid (fun W (hb : Below w.heap.size w W) h0 => bRow_some (h.below hb) h0)
  have HCT := Lib.hid (cntB_take ids)
  have HAL := Lib.hid (show cntB (ids.take ids.length) = cntB ids by rw [List.take_length])
  have hsz := sizeB_le (cntB ids)
  have HMB := Lib.hid (show makeB ids = bitsB (growB ids (sizeB (cntB ids))) (sizeB (cntB ids) / 8) by rw [growB_eq]; rfl)
  have HSIZE := Lib.hid (size_any (cntB ids) w)
  generalize sizeB (cntB ids) = m at *
  obtain ⟨n, hn⟩ : ∃ n, n = m / 8 := ⟨_, rfl⟩
  have hq : (m : Int) / 8 = (n : Int) := by omega
  have hmk := makeY n (by omega) w
  have hwn : wrap64 (n : Int) = n := w64 _ (by omega) (by omega)
  have HMN := Lib.hid (show m = 8 * n ∧ 64 ≤ m ∧ m ≤ 4096 by omega)
  rw [← hn] at HMB
  have HGT := Lib.hid (growB_take ids m)
  have HGA := Lib.hid (show growB (ids.take ids.length) m = growB ids m by rw [List.take_length])
  have HP := Lib.hid (fun id W => places_any id m W)
  have HB0 : Hid (Blk (w.alloc (.cells (List.replicate n (Value.int .u8 0)).toArray 5)) w.heap.size 5 (byV (growB (ids.take 0) m) n)) := Lib.hid (by
    rw [show growB (ids.take 0) m = fun _ => false from rfl, byV_none]; exact Blk.new _ _ _)
  clear h hsz hn
  go_enter Try.func43, Try.ntmps43
  go_wp2
  go_loop [3, 14] (fun c i => ∃ k : Nat, k ≤ ids.length ∧ i = .int .i64 k ∧ c = .int .i64 (cntB (ids.take k) : Nat)) (fun _ i => ids.length - (intOf i).toNat)
  case atStart => exact ⟨0, Nat.zero_le _, rfl, rfl⟩
  case round =>
    obtain ⟨k, hk, rfl, rfl⟩ := hrel
    by_cases hlt : k < ids.length
    · obtain ⟨b, off, rfl, _, hc⟩ := HR.out w (Below.refl _ _) (by omega)
      have ck := hc k hlt
      have HC := Lib.hid (HCT.out k hlt)
      have hle := cntB_le (ids.take k)
      have hlk : (ids.take k).length ≤ k := List.length_take_le _ _
      clear hc hmk hwn
      generalize ids[k] = x at *
      by_cases he : x.size = 32
      · have d1 : ((x.size : Int) == 32) = true := by simp; omega
        go_wp2
        go_round
        case rel => exact ⟨k + 1, by omega, by go_num, by rw [HC.out, if_pos he]; go_num⟩
        case measure => simp [intOf]; omega
      · have d1 : ((x.size : Int) == 32) = false := by simp; omega
        go_wp2
        go_round
        case rel => exact ⟨k + 1, by omega, by go_num, by rw [HC.out, if_neg he]; rfl⟩
        case measure => simp [intOf]; omega
    · obtain rfl : k = ids.length := by omega
      rw [HAL.out]
      go_wp2_with (go_at_call 40; refine HSIZE.out.mono ?_; rintro e w1 ⟨rfl, rfl⟩)
      go_loopw [31] (fun i wr => ∃ k : Nat, k ≤ ids.length ∧ i = .int .i64 k ∧ Blk wr w.heap.size 5 (byV (growB (ids.take k) m) n) ∧ Below w.heap.size w wr) (fun i _ => ids.length - (intOf i).toNat)
      case atStart => exact ⟨0, Nat.zero_le _, rfl, HB0.out, (Below.refl _ _).alloc (Nat.le_refl _) _⟩
      case round =>
        obtain ⟨k, hk, rfl, hB, hb⟩ := hrel
        clear hmk hq hwn
        by_cases hlt : k < ids.length
        · obtain ⟨b, off, rfl, _, hc⟩ := HR.out wr hb (by omega)
          have ck := hc k hlt
          have HF := Lib.hid (HGT.out k hlt)
          have HB := Lib.hid hB
          have HBE := Lib.hid hb
          clear hc hB hb
          generalize ids[k] = x at *
          generalize growB (ids.take k) m = f at *
          cases hpl : placedB x m with
          | false =>
            have HNO := Lib.hid (fun W => places_no x m hpl W)
            have HFN := Lib.hid (show growB (ids.take (k + 1)) m = f by rw [HF.out, placesB_no hpl]; rfl)
            clear hpl
            go_wp2_with (go_at_call 38; refine (HNO.out _).mono ?_; rintro e w1 ⟨rfl, rfl⟩)
            refine wp_loop_rounds 1 ?_
            rw [rounds_succ]
            go_wp2
            go_roundw
            case rel => exact ⟨k + 1, by omega, by go_num, by rw [HFN.out]; exact HB.out, HBE.out⟩
            case measure => simp [intOf]; omega
          | true =>
            have h' : x.size = 32 ∧ 1 ≤ (m : Int) ∧ (m : Int) ≤ 4096 := of_decide_eq_true hpl
            have HYES := Lib.hid (fun W => places_yes x m h'.1 (by omega) (by omega) W)
            have HFY := Lib.hid (show growB (ids.take (k + 1)) m = growI f x m 4 by rw [HF.out, growI_four f x m hpl])
            have HIS := Lib.hid (fun c hc => growI_succ f x m c hpl hc)
            have HLT := Lib.hid (fun c => placeB_lt x m c (by omega))
            clear hpl h'
            rename World => wo
            go_wp2_with (go_at_call 38; refine (HYES.out _).mono ?_; rintro e w1 ⟨g, rfl, hg, hgl, hb1⟩; have HG1 := Lib.hid hg; have HB1 := Lib.hid (HB.out.below hb1 HB.out.lt); have HBE1 := Lib.hid (HBE.out.trans (hb1.mono HBE.out.size)); have HGL := Lib.hid (Nat.ne_of_lt (Nat.lt_of_lt_of_le HB.out.lt hgl)); clear hg hgl hb1)
            go_loopw [39] (fun j wr => ∃ c : Nat, c ≤ 4 ∧ j = .int .i64 c ∧ Blk wr w.heap.size 5 (byV (growI f x m c) n) ∧ Blk wr g 3 (plV x m) ∧ Below w.heap.size w wr) (fun j _ => 4 - (intOf j).toNat)
            case atStart => exact ⟨0, Nat.zero_le _, rfl, HB1.out, HG1.out, HBE1.out⟩
            case round =>
              obtain ⟨c, hc4, rfl, hB, hG, hb⟩ := hrel
              by_cases hcl : c < 4
              · have cg : wr.cell? ⟨g, c, none⟩ = some (.int .i64 (placeB x m c : Nat)) := by rw [hG.cell, plV_get x m c hcl]
                have hp := HLT.out c
                have hFS := HIS.out c hcl
                generalize placeB x m c = p at *
                generalize growI f x m c = F at *
                obtain ⟨j, hj⟩ : ∃ j, j = p / 8 := ⟨_, rfl⟩
                obtain ⟨r, hr⟩ : ∃ r, r = p % 8 := ⟨_, rfl⟩
                have hjn : j < n := by have := HMN.out; omega
                have cb : wr.cell? ⟨w.heap.size, j, none⟩ = some (.int .u8 (byte8 F j : Nat)) := by rw [hB.cell, byV_get F n j hjn]
                have q1 : (p : Int) / 8 = (j : Int) := by omega
                have q2 : (p : Int) % 8 = (r : Int) := by omega
                have hw := u8_put' F p
                have hv := byV_put F n p
                rw [← hj] at hw hv
                rw [← hr] at hw
                have HW := Lib.hid hw
                have HV := Lib.hid hv
                have HFS := Lib.hid hFS
                have HB2 := Lib.hid hB
                have HG2 := Lib.hid hG
                have HBE2 := Lib.hid hb
                have hr8 : r < 8 := by omega
                have wj : IntKind.i64.wrap (j : Int) = j := by have := HMN.out; rw [IntKind.wrap_i64]; omega
                have j1 : (j : Int) < (n : Int) := by omega
                have fb : wr.frozen? ⟨w.heap.size, j, none⟩ = false := hB.frozen j
                clear hj hr hp hw hv hFS hB hG hb ck hjn
                have HK := Lib.hid hk
                have HLT2 := Lib.hid hlt
                have HC4 := Lib.hid hc4
                clear hk hlt hc4 hl
                go_wp2
                go_region
                go_wp2
                go_roundw
                case rel =>
                  refine ⟨c + 1, by omega, by go_num, ?_, (HG2.out.other (Ne.symm HGL.out) _).drew, ?_⟩
                  · rw [HFS.out, ← HV.out, ← HW.out]
                    exact (HB2.out.set j _).drew
                  · exact below_drew (HBE2.out.setCell (Nat.le_refl _) _)
                case measure => simp [intOf]; omega
              · obtain rfl : c = 4 := by omega
                have HB2 := Lib.hid hB
                have HBE2 := Lib.hid hb
                clear hB hG hb
                go_wp2
                go_roundw
                case rel => exact ⟨k + 1, by omega, by go_num, by rw [HFY.out]; exact HB2.out, HBE2.out⟩
                case measure => simp [intOf]; omega
        · obtain rfl : k = ids.length := by omega
          rw [HGA.out] at hB
          have ht := text_bits wr w.heap.size (growB ids m) n n hB
          rw [← HMB.out] at ht
          have HBE2 := Lib.hid hb
          clear hB hb
          go_wp2
          go_ret
          exact ⟨rfl, HBE2.out⟩
end Go.Proofs.Ytbipmeogcmmhhaa
