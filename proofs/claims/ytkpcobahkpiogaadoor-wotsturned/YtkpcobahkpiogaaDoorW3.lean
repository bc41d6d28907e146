/-
  Contracts of the law's own awake, same, long and fit.
-/
import Derived.Test.YtkpcobahkpiogaaDoorW2
import Derived.Deep.OwnRows
namespace Go.Pal
open Go.RowKit
def zeros32 : List UInt8 := List.replicate 32 0
theorem dig_zeros : digL zeros32 = List.replicate 64 0 ++ [3, 12, 0] := by decide +kernel
theorem made32 : madeCells #[Value.int .u8 0] 32 = (zeros32.map byteV).toArray := by kernel_rfl
/-- Any text as a digest's 32 bytes. -/
def fitL (l : List UInt8) : List UInt8 := l.take 32 ++ List.replicate (32 - l.length) 0
theorem fitL_length (l : List UInt8) : (fitL l).length = 32 := by simp [fitL]; omega
def fitB (s : ByteArray) : ByteArray := ⟨(fitL s.data.toList).toArray⟩
theorem fitB_size (s : ByteArray) : (fitB s).size = 32 := by
  show (fitL s.data.toList).toArray.size = 32
  rw [List.size_toArray, fitL_length]
theorem fitL_get (l : List UInt8) (k : Nat) (h : k < l.length) (h2 : k < 32) : (fitL l)[k]? = l[k]? := by
  unfold fitL
  rw [List.getElem?_append_left (by simp; omega), List.getElem?_take, if_pos h2]
theorem fitL_part (l : List UInt8) (k : Nat) (h : k = l.length ∨ k = 32) (hk : k ≤ 32) : partL ((fitL l).map byteV) (zeros32.map byteV) k = (fitL l).map byteV := by
  have hz : zeros32.map byteV = List.replicate 32 (.int .u8 0) := rfl
  rcases h with rfl | rfl
  · unfold partL fitL
    rw [hz, List.take_of_length_le hk, List.map_append, List.take_append_of_le_length (by simp), List.take_of_length_le (by simp), List.drop_replicate, List.map_replicate]
    rfl
  · unfold partL
    rw [hz, List.take_of_length_le (by simp [fitL_length]), List.drop_of_length_le (by simp), List.append_nil]
end Go.Pal
namespace Go.Proofs.YtkpcobahkpiogaaDoor
open Go.RowKit Go.Pal

theorem conv_blk (w : World) (B cap : Nat) (t : TypeId) (l : List UInt8) (hB : Blk w B t (l.map byteV)) :
    (convert 33 9 (.slice (some ⟨B, 0, none⟩) l.length cap)).run Tryd.prog w = .ok (.string ⟨l.toArray⟩) w := by
  have := run_convert_bytes_arg (P := Tryd.prog) w 33 5 Tryd.underlying33 Tryd.underlying5 B 0 l.length cap (l.map fun b => (b.toNat : Int)) (by simp) (fun i hi => by
    rw [Nat.zero_add, hB.cell i]
    simp [hi, byteV]) 9 Tryd.underlying9
  rw [this, nums_bytes]

theorem make32 (w : World) : (Instr.makeSlice 33 (.int .i64 32) (.int .i64 32)).run Tryd.prog w = .ok (.slice (some ⟨w.heap.size, 0, none⟩) 32 32) (w.alloc (.cells (zeros32.map byteV).toArray 5)) := by
  have h := run_make_row' (P := Tryd.prog) 33 5 (.int .u8 0) 1 Tryd.underlying33 (by kernel_rfl) rfl .i64 .i64 32 (by omega) (by omega) w
  rw [made32] at h
  exact h
theorem conv32 (w : World) : (convert 33 9 (.slice (some ⟨w.heap.size, 0, none⟩) 32 32)).run Tryd.prog (w.alloc (.cells (zeros32.map byteV).toArray 5)) = .ok (.string ⟨zeros32.toArray⟩) (w.alloc (.cells (zeros32.map byteV).toArray 5)) :=
  conv_blk _ _ 32 _ zeros32 (Blk.new w 5 (zeros32.map byteV))

set_option maxHeartbeats 1000000 in
set_option maxRecDepth 100000 in
theorem awake3_any (w : World) (ht : Tabs w) :
    Calls Tryd.prog 34 #[] w fun e w' => e = .returned (.bool true) ∧ Below w.heap.size w w' := by
  have HT := Lib.hid ht
  have hD := digits_yes ⟨zeros32.toArray⟩ rfl
  rw [show (⟨zeros32.toArray⟩ : ByteArray).data.toList = zeros32 from rfl, dig_zeros] at hD
  have HD := Lib.hid hD
  have hm := make32 w
  have hc := conv32 w
  have HX0 := Lib.hid (show chainB 5 ⟨#[120]⟩ (stepsN 0) = ⟨#[120]⟩ from rfl)
  have HC1 := Lib.hid (fun W hT => chain_any W 5 1 ⟨#[120]⟩ (by decide) hT)
  have HC0 := Lib.hid (fun W hT => chain_any W 5 0 ⟨#[120]⟩ (by decide) hT)
  have HR1 := Lib.hid (fun W => refchain_any W 5 1 ⟨#[120]⟩ (by decide))
  rw [HX0.out] at HC0
  clear ht hD HX0
  generalize chainB 5 ⟨#[120]⟩ (stepsN 1) = X at *
  generalize hz : zeros32 = z at *
  clear hz
  go_enter Tryd.func34, Tryd.ntmps34
  go_wp2_with fail
  refine (HD.out _).mono ?_
  rintro e w1 ⟨⟨v, rfl, hown⟩, b1⟩
  have c1 := ((Below.refl w.heap.size w).alloc (Nat.le_refl _) (.cells (z.map byteV).toArray 5))
  have C2 := Lib.hid (c1.trans (b1.mono c1.size))
  obtain ⟨g, cap, rfl, _, _⟩ := hown.form (by omega)
  have k63 : w1.cell? ⟨g, 63, none⟩ = some (.int .i64 0) := (hown.cellAt 63 (by omega)).trans rfl
  have k64 : w1.cell? ⟨g, 64, none⟩ = some (.int .i64 3) := (hown.cellAt 64 (by omega)).trans rfl
  have k65 : w1.cell? ⟨g, 65, none⟩ = some (.int .i64 12) := (hown.cellAt 65 (by omega)).trans rfl
  have k66 : w1.cell? ⟨g, 66, none⟩ = some (.int .i64 0) := (hown.cellAt 66 (by omega)).trans rfl
  clear hown b1 c1 hm hc HD
  go_wp2_with fail
  refine (HC1.out _ (HT.out.below C2.out)).mono ?_
  rintro e w3 ⟨rfl, b3⟩
  have C3 := Lib.hid (C2.out.trans (b3.mono C2.out.size))
  clear b3 C2 k63 k64 k65 k66
  go_wp2_with fail
  refine (HR1.out _).mono ?_
  rintro e w4 ⟨rfl, b4⟩
  have C4 := Lib.hid (C3.out.trans (b4.mono C3.out.size))
  clear b4 C3
  go_wp2_with fail
  refine (HC0.out _ (HT.out.below C4.out)).mono ?_
  rintro e w5 ⟨rfl, b5⟩
  have C5 := Lib.hid (C4.out.trans (b5.mono C4.out.size))
  clear b5 C4
  go_wp2
  go_ret
  exact ⟨rfl, C5.out⟩

set_option maxHeartbeats 400000 in
theorem long3 (s : ByteArray) (w : World) :
    Calls Tryd.prog 37 #[.string s] w fun e w' => e = .returned (.bool (decide (300 < (s.size : Int)))) ∧ w = w' := by
  go_enter Tryd.func37, Tryd.ntmps37
  go_wp2
  go_ret
  exact ⟨rfl, rfl⟩

set_option maxHeartbeats 1000000 in
theorem same3 (w : World) (a b c d n : Nat) (l : List Nat) (hn : n ≤ 1000) (h1 : ∀ i, i < n → w.cell? ⟨a, i, none⟩ = some (.int .i64 (l.getD i 0 : Nat))) (h2 : ∀ i, i < n → w.cell? ⟨b, i, none⟩ = some (.int .i64 (l.getD i 0 : Nat))) :
    Calls Tryd.prog 35 #[.slice (some ⟨a, 0, none⟩) n c, .slice (some ⟨b, 0, none⟩) n d] w fun e w' => e = .returned (.bool true) ∧ Same w w' := by
  have H1 := Lib.hid h1
  have H2 := Lib.hid h2
  clear h1 h2
  go_enter Tryd.func35, Tryd.ntmps35
  go_wp2
  go_loopw [5] (fun i wr => ∃ k : Nat, k ≤ n ∧ i = .int .i64 k ∧ Same w wr) (fun i _ => n - (intOf i).toNat)
  case atStart => exact ⟨0, by omega, rfl, Same.refl w⟩
  case round =>
    obtain ⟨k, hk, rfl, hs⟩ := hrel
    by_cases hlt : k < n
    · have k1 := (hs.cell _).trans (H1.out k hlt)
      have k2 := (hs.cell _).trans (H2.out k hlt)
      generalize l.getD k 0 = x at *
      have HS := Lib.hid hs
      clear hs
      go_wp2
      go_quiet (fail)
      go_wp2
      go_roundw
      case rel => exact ⟨k + 1, by omega, by go_num, HS.out.drewN _⟩
      case measure => simp [intOf]; omega
    · obtain rfl : k = n := by omega
      have HS := Lib.hid hs
      clear hs
      go_wp2
      go_ret
      exact ⟨rfl, HS.out⟩

set_option maxHeartbeats 1000000 in
set_option maxRecDepth 100000 in
theorem fit3 (s : ByteArray) (hs : s.size ≤ maxLen) (w : World) :
    Calls Tryd.prog 49 #[.string s] w fun e w' => e = .returned (.string (fitB s)) ∧ Below w.heap.size w w' := by
  unfold maxLen at hs
  have hm := make32 w
  have hZ : (zeros32.map byteV).length = 32 := rfl
  have hF : ((fitL s.data.toList).map byteV).length = 32 := by simp [fitL_length]
  have hnew := Blk.new w 5 (zeros32.map byteV)
  have hget : ∀ k, (h : k < s.size) → k < 32 → ((fitL s.data.toList).map byteV)[k]? = some (.int .u8 (s[k].toNat : Int)) := by
    intro k h h2
    rw [List.getElem?_map, fitL_get _ _ (by simpa using h) h2, List.getElem?_eq_getElem (by simpa using h)]
    rfl
  have hzg : ∀ k, k < 32 → (zeros32.map byteV)[k]? = some (.int .u8 0) := by
    intro k hk
    have : zeros32.map byteV = List.replicate 32 (.int .u8 0) := rfl
    rw [this, List.getElem?_replicate, if_pos hk]
  have hend : ∀ k, (k = s.size ∨ k = 32) → k ≤ 32 → partL ((fitL s.data.toList).map byteV) (zeros32.map byteV) k = (fitL s.data.toList).map byteV := fun k h1 h2 => fitL_part _ k (by simpa using h1) h2
  have hcv := fun (W : World) (B : Nat) (hB : Blk W B 5 ((fitL s.data.toList).map byteV)) => conv_blk W B 32 _ _ hB
  have hcv2 : ∀ (W : World) (B : Nat), Blk W B 5 ((fitL s.data.toList).map byteV) → (convert 33 9 (.slice (some ⟨B, 0, none⟩) 32 32)).run Tryd.prog W = .ok (.string (fitB s)) W := by
    intro W B hB
    have := hcv W B hB
    rw [fitL_length] at this
    exact this
  generalize zeros32.map byteV = Z at *
  generalize (fitL s.data.toList).map byteV = F at *
  generalize fitB s = R at *
  have HG := Lib.hid hget
  have HZG := Lib.hid hzg
  have HE := Lib.hid hend
  have HCV := Lib.hid hcv2
  have HN := Lib.hid hnew
  clear hget hzg hend hcv hcv2 hnew
  go_enter Tryd.func49, Tryd.ntmps49
  go_wp2
  go_loopw [4] (fun i wr => ∃ k : Nat, k ≤ s.size ∧ k ≤ 32 ∧ i = .int .i64 k ∧ Blk wr w.heap.size 5 (partL F Z k) ∧ Below w.heap.size w wr) (fun i _ => 32 - (intOf i).toNat)
  case atStart => exact ⟨0, by omega, by omega, rfl, by rw [partL_zero]; exact HN.out, (Below.refl _ _).alloc (Nat.le_refl _) _⟩
  case round =>
    clear HN hm
    obtain ⟨k, hk, hk2, rfl, hB, hb⟩ := hrel
    by_cases hgo : k < s.size ∧ k < 32
    · obtain ⟨h1, h2⟩ := hgo
      have kc := (hB.cell k).trans ((partL_get F Z k (by omega)).trans (HZG.out k h2))
      have kf := hB.frozen k
      have hset := hB.set k (F[k]'(by omega))
      rw [partL_set F Z k (by omega) (by omega), (List.getElem_eq_iff _).2 (HG.out k h1 h2)] at hset
      have HSET := Lib.hid hset
      have HB := Lib.hid hb
      clear hset hB hb HG HZG HE HCV
      go_wp2
      go_roundw
      case rel => exact ⟨k + 1, by omega, by omega, by go_num, HSET.out, HB.out.setCell (p := ⟨w.heap.size, k, none⟩) (Nat.le_refl _) _⟩
      case measure => simp [intOf]; omega
    · have he := HE.out k (by omega) hk2
      rw [he] at hB
      have hcv := HCV.out wr _ hB
      have HB := Lib.hid hb
      have hcase : (k < s.size ∧ k = 32) ∨ k = s.size := by omega
      clear hb hB he HE HCV HG HZG hgo
      rcases hcase with ⟨h1, rfl⟩ | rfl
      · go_wp2
        go_ret
        exact ⟨rfl, HB.out⟩
      · go_wp2
        go_ret
        exact ⟨rfl, HB.out⟩

end Go.Proofs.YtkpcobahkpiogaaDoor
