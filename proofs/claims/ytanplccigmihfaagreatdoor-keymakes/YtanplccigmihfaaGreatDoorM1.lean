/-
  Contracts of merkle: pair.root, rowAbove, areLeaves, Fold.
-/
import Derived.Test.YtanplccigmihfaaGreatDoorM0
import Derived.Deep.OwnRows
import Derived.Deep.RegionWith
namespace Go.Proofs.YtanplccigmihfaaGreatDoor
open Go.RowKit Go.Pal

set_option maxHeartbeats 400000 in
theorem pair_any (w : World) (x y : ByteArray) (hx : x.size ≤ 1000000) (hy : y.size ≤ 1000000) (ht : Tabs w) :
    Calls Tryz.prog 89 #[.agg #[.string x, .string y]] w fun e w' => e = .returned (.string (pairB x y)) ∧ Below w.heap.size w w' := by
  have htot : totL [x, y] ≤ 2147483647 := by simp [totL]; omega
  have HTG := Lib.hid (fun W a c hT h => tag_any W 4 a c [x, y] hT h htot (by simp))
  have hp : pairB x y = shaB ⟨(inputL 4 [x, y]).toArray⟩ := rfl
  have HP := Lib.hid hp
  have HT := Lib.hid ht
  clear htot hp ht hx hy
  go_enter Tryz.func89, Tryz.ntmps89
  go_wp2_with fail
  have c3 := (Below.refl w.heap.size w).alloc (Nat.le_refl _) (.cells #[.string x, .string y] 129)
  refine (HTG.out _ _ _ (HT.out.below c3) (strs2t _ _ _ _)).mono ?_
  rintro e w4 ⟨rfl, b4⟩
  have C4 := Lib.hid (c3.trans (b4.mono c3.size))
  clear b4 c3
  rw [← HP.out]
  go_wp2
  go_ret
  exact ⟨rfl, C4.out⟩

theorem makeS (n : Nat) (hn : n ≤ 1000000) (w : World) : (Instr.makeSlice 39 (.int .i64 (n : Int)) (.int .i64 (n : Int))).run Tryz.prog w = .ok (.slice (some ⟨w.heap.size, 0, none⟩) n n) (w.alloc (.cells (List.replicate n (Value.string ⟨#[]⟩)).toArray 9)) := by
  have h := run_make_row' (P := Tryz.prog) 39 9 (.string ⟨#[]⟩) 16 Tryz.underlying39 (by kernel_rfl) rfl .i64 .i64 n (by omega) (by omega) w
  rw [madeS] at h
  exact h

set_option maxHeartbeats 1000000 in
set_option maxRecDepth 100000 in
theorem above_any (w : World) (a : Option Addr) (cap : Nat) (ss : List ByteArray) (hss : StrRow w a ss) (hlen : ss.length ≤ 16) (hsm : SmallL ss) (ht : Tabs w) :
    Calls Tryz.prog 78 #[.slice a ss.length cap] w fun e w' => e = .returned (.slice (some ⟨w.heap.size, 0, none⟩) (rowUp ss).length (rowUp ss).length) ∧ StrRow w' (some ⟨w.heap.size, 0, none⟩) (rowUp ss) ∧ w.heap.size < w'.heap.size ∧ Below w.heap.size w w' := by
  have hm := makeS (ss.length / 2) (by omega) w
  have hq : (ss.length : Int) / 2 = ((ss.length / 2 : Nat) : Int) := by omega
  have hlu := rowUp_length ss
  have hget := rowUp_get ss
  have HG := Lib.hid hget
  have HLU := Lib.hid hlu
  have HSS := Lib.hid hss
  have HSM := Lib.hid hsm
  have HT := Lib.hid ht
  rw [hlu]
  obtain ⟨n, hn⟩ : ∃ n, n = ss.length / 2 := ⟨_, rfl⟩
  rw [← hn] at hm hq HG HLU ⊢
  generalize rowUp ss = U at *
  have hnl : 2 * n ≤ ss.length := by omega
  have hn8 : n ≤ 8 := by omega
  clear hget hlu hss hsm ht hn
  go_enter Tryz.func78, Tryz.ntmps78
  go_wp2
  go_loopw [11] (fun i wr => ∃ k : Nat, k ≤ n ∧ i = .int .i64 k ∧ Blk wr w.heap.size 9 (partL (U.map strV) (List.replicate n (Value.string ⟨#[]⟩)) k) ∧ Below w.heap.size w wr) (fun i _ => n - (intOf i).toNat)
  case atStart => exact ⟨0, by omega, rfl, by rw [partL_zero]; exact Blk.new' _ _ _ rfl, (Below.refl _ _).alloc (Nat.le_refl _) _⟩
  case round =>
    clear hm hq
    obtain ⟨k, hk, rfl, hB, hb⟩ := hrel
    have hUl : (U.map strV).length = n := by rw [List.length_map, HLU.out]
    by_cases hlt : k < n
    · rcases HSS.out with h0 | ⟨b, off, rfl, hbl, hc⟩
      · rw [h0] at hnl; simp at hnl; omega
      have c0 := (hb.cell (p := ⟨b, off + 2 * k, none⟩) hbl).trans (hc (2 * k) (by omega))
      have c1 := (hb.cell (p := ⟨b, off + (2 * k + 1), none⟩) hbl).trans (hc (2 * k + 1) (by omega))
      have s0 := HSM.out (2 * k)
      have s1 := HSM.out (2 * k + 1)
      have hgk := HG.out k hlt
      generalize ss.getD (2 * k) ByteArray.empty = x at *
      generalize ss.getD (2 * k + 1) ByteArray.empty = y at *
      have d0 := (hB.cell k).trans ((partL_get _ _ k (by omega)).trans (by rw [List.getElem?_replicate, if_pos hlt]))
      have f0 := hB.frozen k
      have hlt2 := hB.lt
      have hset : ∀ w' : World, Below wr.heap.size wr w' → Blk (w'.setCell ⟨w.heap.size, k, none⟩ (.string (pairB x y))) w.heap.size 9 (partL (U.map strV) (List.replicate n (Value.string ⟨#[]⟩)) (k + 1)) := by
        intro w' hb'
        have h2 := (hB.below hb' hlt2).set k ((U.map strV)[k]'(by omega))
        rw [partL_set _ _ k (by omega) (by simp; omega), (List.getElem_eq_iff _).2 (strs_get? U k (by rw [HLU.out]; exact hlt)), hgk] at h2
        exact h2
      have hbset : ∀ w' : World, Below wr.heap.size wr w' → Below w.heap.size w (w'.setCell ⟨w.heap.size, k, none⟩ (.string (pairB x y))) := fun w' hb' => (hb.trans (hb'.mono hb.size)).setCell (p := ⟨w.heap.size, k, none⟩) (Nat.le_refl _) _
      have HPA := Lib.hid (fun W (hT : Tabs W) => pair_any W x y s0 s1 hT)
      have HTr := Lib.hid (fun (W : World) (h : Below wr.heap.size wr W) => HT.out.below (hb.trans (h.mono hb.size)))
      have HSET := Lib.hid hset
      have HBS := Lib.hid hbset
      have hk0 : (0 : Int) ≤ (k : Int) := by omega
      have hk1 : (k : Int) < (n : Int) := by omega
      have i0 : (0 : Int) ≤ 2 * (k : Int) := by omega
      have i1 : 2 * (k : Int) < (ss.length : Int) := by omega
      have i2 : (0 : Int) ≤ 2 * (k : Int) + 1 := by omega
      have i3 : 2 * (k : Int) + 1 < (ss.length : Int) := by omega
      have i4 : IntKind.i64.wrap (2 * (k : Int)) = 2 * (k : Int) := by rw [IntKind.wrap_i64]; omega
      have i5 : IntKind.i64.wrap (2 * (k : Int) + 1) = 2 * (k : Int) + 1 := by rw [IntKind.wrap_i64]; omega
      have i6 : (2 * (k : Int)).toNat = 2 * k := by omega
      have i7 : (2 * (k : Int) + 1).toNat = 2 * k + 1 := by omega
      have hblr : b < wr.heap.size := Nat.lt_of_lt_of_le hbl hb.size
      generalize pairB x y = z at *
      clear hset hbset hgk hB hb hc HG HSS HSM hUl s0 s1
      go_wp2
      go_region_with (go_at_call 89; refine (HPA.out _ (HTr.out _ ((Below.refl _ _).drew))).mono ?_; rintro e w1 ⟨rfl, b1⟩; have d1 := (b1.cell (p := ⟨w.heap.size, k, none⟩) hlt2).trans d0; have f1 := (b1.frozen (p := ⟨w.heap.size, k, none⟩) hlt2).trans f0)
      all_goals
        go_wp2
        go_roundw
        case rel => exact ⟨k + 1, by omega, by go_num, HSET.out _ (((Below.refl wr.heap.size wr).drew).trans b1), HBS.out _ (((Below.refl wr.heap.size wr).drew).trans b1)⟩
        case measure => simp [intOf]; omega
    · obtain rfl : k = n := by omega
      have hall := partL_all (U.map strV) (List.replicate k (Value.string ⟨#[]⟩)) (by rw [hUl]; simp)
      rw [hUl] at hall
      rw [hall] at hB
      have HSR := Lib.hid (strRow_blk hB)
      have HB := Lib.hid hb
      have HLT := Lib.hid hB.lt
      clear hB hb hall
      go_wp2
      go_ret
      exact ⟨rfl, HSR.out, HLT.out, HB.out⟩
end Go.Proofs.YtanplccigmihfaaGreatDoor
