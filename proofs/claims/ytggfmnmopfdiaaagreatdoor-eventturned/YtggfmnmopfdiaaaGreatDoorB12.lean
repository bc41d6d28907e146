/-
  Contracts of the document's keys: Round, Excused.
-/
import Derived.Test.YtggfmnmopfdiaaaGreatDoorB11
namespace Go.Pal
open Go.RowKit
def chainRow (k : Nat) (v : ByteArray) (n : Nat) : List ByteArray := (List.range n).map fun i => chainB (k : Nat) v i
theorem chainRow_succ (k : Nat) (v : ByteArray) (n : Nat) : chainRow k v (n + 1) = chainRow k v n ++ [chainB (k : Nat) v n] := by simp [chainRow, List.range_succ]
theorem chainRow_length (k : Nat) (v : ByteArray) (n : Nat) : (chainRow k v n).length = n := by simp [chainRow]
theorem chainRow_get (k : Nat) (v : ByteArray) (n i : Nat) (h : i < n) : (chainRow k v n).getD i ByteArray.empty = chainB (k : Nat) v i := by
  rw [List.getD_eq_getElem?_getD, chainRow, List.getElem?_map, List.getElem?_range h]; rfl
/-- A chain does not come round. -/
def NoRound (k : Nat) (v : ByteArray) (n : Nat) : Prop := ∀ i j, j < i → i ≤ n → chainB (k : Nat) v i ≠ chainB (k : Nat) v j
end Go.Pal
namespace Go.Proofs.YtggfmnmopfdiaaaGreatDoor
open Go.RowKit Go.Pal

set_option maxHeartbeats 4000000 in
set_option maxRecDepth 100000 in
theorem round_true (w : World) (s : ByteArray) (h leaf : Nat) (hs : SigOk s h leaf)
    (hex : ∃ k i j, k < 67 ∧ j < i ∧ i ≤ 15 ∧ chainB (k : Nat) ((cutL s 2 67).getD k ByteArray.empty) i = chainB (k : Nat) ((cutL s 2 67).getD k ByteArray.empty) j) :
    Calls Tryz.prog 46 #[.string s] w fun e w' => e = .returned (.bool true) ∧ Below w.heap.size w w' := by
  obtain ⟨i0, hi0, hz0, hz1, hz2⟩ := info_parts (show (Tryz.prog.info? 9).map (fun i => (i.zero, i.size, i.bytes)) = some (some (.string ⟨#[]⟩), 1, 16) by kernel_rfl)
  have hz := hs.hz
  have v32 : All32 (cutL s 2 67) := cutL_32 s 2 67 (by omega)
  have hvl : (cutL s 2 67).length = 67 := cutL_length _ _ _
  have HV32 := Lib.hid (fun k (hk : k < 67) => v32 k (by rw [hvl]; exact hk))
  have HVL := Lib.hid hvl
  have HPT := Lib.hid (parts_yes w s h leaf hs)
  have HEX := Lib.hid hex
  clear hs hz v32 hvl hex
  generalize cutL s 2 67 = V at *
  generalize cutL s 2146 h = P at *
  go_enter Tryz.func46, Tryz.ntmps46
  go_wp2_with (go_at_call 41; refine HPT.out.mono ?_; rintro e w1 ⟨⟨g, o, c, a2, c2, rfl, r1, p1, hg1⟩, b1⟩)
  have R1 := Lib.hid r1
  have B1 := Lib.hid b1
  clear r1 p1 b1 HPT
  go_loopw [7] (fun vk wr => ∃ k : Nat, k ≤ 67 ∧ vk = .int .i64 k ∧ (∀ q, q < k → NoRound q (V.getD q ByteArray.empty) 15) ∧ Below w1.heap.size w1 wr) (fun vk _ => 67 - (intOf vk).toNat)
  case atStart => exact ⟨0, by omega, rfl, fun q hq => absurd hq (Nat.not_lt_zero q), Below.refl _ _⟩
  case round =>
    obtain ⟨k, hk, rfl, hno, hb⟩ := hrel
    have HNO := Lib.hid hno
    have HB := Lib.hid hb
    by_cases hlt : k < 67
    · have ck := strRow_cell (R1.out.below hb) k (by rw [HVL.out]; exact hlt)
      have hv := HV32.out k hlt
      have HX := Lib.hid (show NoRound k (V.getD k ByteArray.empty) 15 → ∀ q, q < k + 1 → NoRound q (V.getD q ByteArray.empty) 15 from fun h1 q hq => by
        by_cases e : q = k
        · subst e; exact h1
        · exact HNO.out q (by omega))
      generalize V.getD k ByteArray.empty = v at *
      have HST := Lib.hid (fun W i => refstep_any W (k : Int) (chainB (k : Nat) v i) (chainB_size _ _ (by omega) i))
      have HLE := Lib.hid (fun i => chainB_le (k : Nat) v 1000 (by omega) (by omega) i)
      have HSC := Lib.hid (show ∀ i, stepB (k : Int) (chainB (k : Nat) v i) = chainB (k : Nat) v (i + 1) from fun i => rfl)
      have HC0 := Lib.hid (show chainB (k : Nat) v 0 = v from rfl)
      have HRS := Lib.hid (fun i => chainRow_succ k v i)
      have HRL := Lib.hid (fun i => chainRow_length k v i)
      have HRG := Lib.hid (fun n i h => chainRow_get k v n i h)
      have HR1 := Lib.hid (show chainRow k v 1 = [v] from rfl)
      clear hno hb hv
      have HLT := Lib.hid hlt
      have hltd : decide ((k : Int) < 67) = true := decide_eq_true (by omega)
      rename World => wk
      go_wp2
      go_loopw [8, 9] (fun vl vi wr => ∃ i : Nat, i ≤ 15 ∧ vi = .int .i64 i ∧ wr.ownsRow w1.heap.size 9 1 vl (i + 1) ((chainRow k v (i + 1)).map strV) ∧ NoRound k v i ∧ Below w1.heap.size w1 wr) (fun _ vi _ => 15 - (intOf vi).toNat)
      case atStart =>
        refine ⟨0, by omega, rfl, ?_, fun i j h1 h2 => by omega, HB.out.alloc HB.out.size _⟩
        rw [HR1.out]
        refine ⟨rfl, .inr ⟨wk.heap.size, 1, #[strV v], rfl, HB.out.size, heap_alloc_new wk _, by omega, by unfold maxLen; omega, rfl, rfl⟩⟩
      case round =>
        clear hk
        obtain ⟨i, hi, rfl, hown, hnr, hb⟩ := hrel
        by_cases hil : i < 15
        · obtain ⟨la, lc, rfl, lr, _⟩ := own_strs2 hown (HRL.out _)
          rw [HRL.out]
          obtain ⟨lb, lo, rfl, hlb⟩ := strRow_some lr (by rw [HRL.out]; omega)
          have ci := strRow_cell lr i (by rw [HRL.out]; omega)
          rw [HRG.out (i + 1) i (by omega)] at ci
          rw [HRL.out] at hown
          have O1 := Lib.hid hown
          have LR := Lib.hid lr
          have HNR := Lib.hid hnr
          have HB2 := Lib.hid hb
          have HS1 := Lib.hid (HST.out wr i)
          rw [HSC.out i] at HS1
          have hii : (i : Int) < ((i + 1 : Nat) : Int) := by omega
          have hii2 : i < i + 1 := by omega
          have HRSI := Lib.hid (HRS.out (i + 1))
          have HNN := Lib.hid (show (∀ q, q < i + 1 → chainB (k : Nat) v q ≠ chainB (k : Nat) v (i + 1)) → NoRound k v (i + 1) from fun h1 p q hq hp => by
            by_cases e : p = i + 1
            · subst e; exact (h1 q hq).symm
            · exact hnr p q hq (by omega))
          clear hown lr hnr hb ck hlb
          generalize chainB (k : Nat) v (i + 1) = x at *
          rename World => wi
          go_wp2_with fail
          refine HS1.out.mono ?_
          rintro e w2 ⟨rfl, b2⟩
          have O2 := Lib.hid (own_keep O1.out b2)
          have B2 := Lib.hid (HB2.out.trans (b2.mono HB2.out.size))
          have LR2 := Lib.hid (LR.out.below b2)
          clear b2 O1 LR HB2 ci
          go_wp2
          go_loopw [11] (fun vj wr => ∃ j : Nat, j ≤ i + 1 ∧ vj = .int .i64 j ∧ (∀ q, q < j → chainB (k : Nat) v q ≠ x) ∧ wr = w2) (fun vj _ => i + 1 - (intOf vj).toNat)
          case atStart => exact ⟨0, by omega, rfl, fun q hq => absurd hq (Nat.not_lt_zero q), rfl⟩
          case round =>
            obtain ⟨j, hj, rfl, hq, rfl⟩ := hrel
            have HQ := Lib.hid hq
            clear hq
            by_cases hjl : j ≤ i
            · have cj := strRow_cell LR2.out j (by rw [HRL.out]; omega)
              rw [HRG.out (i + 1) j (by omega)] at cj
              have HQ2 := Lib.hid (show chainB (k : Nat) v j ≠ x → ∀ q, q < j + 1 → chainB (k : Nat) v q ≠ x from fun h1 q h2 => by
                by_cases e : q = j
                · subst e; exact h1
                · exact HQ.out q (by omega))
              have hj1 : (j : Int) < ((i + 1 : Nat) : Int) := by omega
              have hj2 : j < i + 1 := by omega
              generalize chainB (k : Nat) v j = y at *
              by_cases hxy : y = x
              · subst hxy
                go_wp2
                go_ret
                exact ⟨rfl, B1.out.trans (B2.out.mono B1.out.size)⟩
              · have hf := beqF hxy
                have HXY := Lib.hid hxy
                clear hxy
                go_wp2
                go_roundw
                case rel => exact ⟨j + 1, by omega, by go_num, HQ2.out HXY.out, by first | rfl | trivial⟩
                case measure => simp [intOf]; omega
            · obtain rfl : j = i + 1 := by omega
              have HN2 := Lib.hid (HNN.out HQ.out)
              have HC1 : Hid (i + 1 + 1 ≤ maxLen) := Lib.hid (by unfold maxLen; omega)
              have HC2 : Hid ((i + 1 + 1) * 16 ≤ 140737488355328) := Lib.hid (by omega)
              have HC3 : Hid (∀ o : Obj, w1.heap.size ≤ (wr.alloc o).heap.size) := Lib.hid (fun o => by have := B2.out.size; simp; omega)
              have hji : ¬ (i + 1 ≤ i) := by omega
              have hji2 : ¬ (((i + 1 : Nat) : Int) ≤ (i : Int)) := by omega
              clear hj hjl HQ HNN
              go_wp2_with (at_builtin; refine wpList_append_lies _ rfl _ _ 22 rfl w1.heap.size 9 i0 (.string ⟨#[]⟩) 1 16 Tryz.underlying22 hi0 hz0 hz1 hz2 rfl (by omega) _ (i + 1) _ rfl (O2.out.alloc _) ⟨wr.heap.size, 0, none⟩ 1 1 [strV x] rfl rfl (World.news_of_block (cs := #[strV x]) (t := 9) (fr := (0, 0)) (heap_alloc_new wr _)) (strV_one x) (by omega) HC1.out HC2.out (HC3.out _) (wr.heap.size + 1) (by simp) ?_)
              intro g3 cap3 w3 hown3 hg3 _ _
              have B3 := Lib.hid ((B2.out.alloc B2.out.size _).grown hg3 (HC3.out _) (fun j hj => (O2.out.lt j hj).1))
              have O3 := Lib.hid hown3
              clear hown3 hg3 O2 B2
              go_wp2
              go_roundw
              case rel => exact ⟨i + 1, by omega, by go_num, by rw [HRSI.out, List.map_append]; exact O3.out, HN2.out, B3.out⟩
              case measure => simp [intOf]; omega
        · obtain rfl : i = 15 := by omega
          have HX2 := Lib.hid (HX.out hnr)
          have HB2 := Lib.hid hb
          clear hown hnr hb ck
          rw [show ((15 : Nat) : Int) = 15 from rfl]
          go_wp2
          go_roundw
          case rel => exact ⟨k + 1, by have := HLT.out; omega, by go_num, HX2.out, HB2.out⟩
          case measure => have := HLT.out; simp [intOf]; omega
    · exfalso
      obtain rfl : k = 67 := by omega
      obtain ⟨q, i, j, h1, h2, h3, h4⟩ := HEX.out
      exact HNO.out q h1 i j h2 h3 h4

/-- A clash, or a chain that comes round. -/
theorem excused_true (w : World) (g c : Nat) (l : List ByteArray) (s : ByteArray) (h leaf : Nat) (hs : SigOk s h leaf) (hl : l.length ≤ 5000) (hr : StrRow w (some ⟨g, 0, none⟩) l) (hsz : ∀ i, (l.getD i ByteArray.empty).size ≤ 9000000)
    (hex : (∃ i j, j < i ∧ i < l.length ∧ l.getD i ByteArray.empty ≠ l.getD j ByteArray.empty ∧ shaB (l.getD i ByteArray.empty) = shaB (l.getD j ByteArray.empty)) ∨
      (∃ k i j, k < 67 ∧ j < i ∧ i ≤ 15 ∧ chainB (k : Nat) ((cutL s 2 67).getD k ByteArray.empty) i = chainB (k : Nat) ((cutL s 2 67).getD k ByteArray.empty) j)) :
    Calls Tryz.prog 17 #[.slice (some ⟨g, 0, none⟩) l.length c, .string s] w fun e w' => e = .returned (.bool true) ∧ Below w.heap.size w w' := by
  have HCL := Lib.hid (clash5 w g 0 c l hl hr hsz)
  have HRD := Lib.hid (fun h2 W => round_true W s h leaf hs h2)
  have HEX := Lib.hid hex
  clear hs hl hr hsz hex
  go_enter Tryz.func17, Tryz.ntmps17
  go_wp2_with fail
  refine HCL.out.mono ?_
  rintro e w1 ⟨⟨v, rfl, bv, rfl, hbv⟩, b1⟩
  have B1 := Lib.hid b1
  have HBV := Lib.hid hbv
  clear b1 hbv HCL
  cases bv
  · have hR := HRD.out (by
      rcases HEX.out with h1 | h1
      · exact absurd (HBV.out h1) (by decide)
      · exact h1)
    have HR1 := Lib.hid (hR w1)
    clear hR HRD HEX HBV
    go_wp2_with (go_at_call 46; refine HR1.out.mono ?_; rintro e w2 ⟨rfl, b2⟩)
    go_ret
    exact ⟨rfl, B1.out.trans (b2.mono B1.out.size)⟩
  · clear HRD HEX HBV
    go_wp2
    go_ret
    exact ⟨rfl, B1.out⟩
end Go.Proofs.YtggfmnmopfdiaaaGreatDoor
