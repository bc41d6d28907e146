/-
  Contract of the document's padding.
-/
import Derived.Test.YtggfmnmopfdiaaaGreatDoorOwn
import Derived.Test.YtggfmnmopfdiaaaGreatDoorRefPlain
namespace Go.Pal
open Go.RowKit
theorem OwnB.alloc {w : World} {base : Nat} {e : TypeId} {v : Value} {l : List UInt8} (h : OwnB w base e v l) (o : Obj) : OwnB (w.alloc o) base e v l := by
  obtain ⟨g, cap, cur, lo, hi, hv, hb, hg, rest⟩ := h
  have hlt : g < w.heap.size := (Array.getElem?_eq_some_iff.1 hg).1
  exact ⟨g, cap, cur, lo, hi, hv, hb, (heap_alloc_old w o hlt).trans hg, rest⟩
theorem OwnB.block {w : World} {base : Nat} {e : TypeId} {v : Value} {l : List UInt8} (h : OwnB w base e v l) (k : Nat) (hk : v.ownBlock = some k) : base ≤ k := by
  obtain ⟨g, cap, cur, lo, hi, rfl, hb, hg, rest⟩ := h
  cases hk
  exact hb
theorem below_bytes (w : World) (e : TypeId) (s : ByteArray) : Below w.heap.size w (Lib.bytesWorld w e s) :=
  ⟨rfl, rfl, rfl, by rw [Lib.bytesWorld_size]; omega, fun k hk => Lib.bytesWorld_at_old w e s k hk⟩
theorem new_cell (w : World) (b : UInt8) (e : TypeId) (n : Nat) (hn : n = w.heap.size) : ∀ (j : Nat) (u : Value), ([b].map byteV)[j]? = some u → (w.alloc (.cells #[byteV b] e)).cell? ((⟨n, 0, none⟩ : Addr).add j) = some u := by
  intro j u hj
  cases j with
  | zero =>
    simp at hj
    subst hj hn
    rw [Addr.add_lit]
    have := Blk.new w e [byteV b]
    exact this.cell 0
  | succ j => simp at hj
theorem new_cellV (w : World) (x : Value) (b : UInt8) (e : TypeId) (n : Nat) (hn : n = w.heap.size) (hx : x = byteV b) : ∀ (j : Nat) (u : Value), ([b].map byteV)[j]? = some u → (w.alloc (.cells #[x] e)).cell? ((⟨n, 0, none⟩ : Addr).add j) = some u := by
  rw [hx]; exact new_cell w b e n hn
theorem takeD (B : List UInt8) (k : Nat) (h : k < B.length) : B.take k ++ [B.getD k 0] = B.take (k + 1) := by
  rw [List.take_succ_eq_append_getElem h]
  simp [h]
end Go.Pal
namespace Go.Proofs.YtggfmnmopfdiaaaGreatDoor
open Go.RowKit Go.Pal

set_option maxHeartbeats 1000000 in
set_option maxRecDepth 100000 in
theorem padded_any (w : World) (s : ByteArray) (hs : s.size ≤ 10000000) :
    Calls Tryz.prog 98 #[.string s] w fun e w' => e = .returned (.string ⟨(padL s.data.toList).toArray⟩) ∧ Below w.heap.size w w' := by
  obtain ⟨i0, hi, hz0, hz1, hz2⟩ := info_parts (show (Tryz.prog.info? 5).map (fun i => (i.zero, i.size, i.bytes)) = some (some (.int .u8 0), 1, 1) by kernel_rfl)
  have kc := fun (w : World) (s : ByteArray) => Lib.run_convert_string_bytes (P := Tryz.prog) w 9 79 5 s Tryz.underlying9 Tryz.underlying79 Tryz.underlying5
  have hzl := zerosL_le s.size
  have HI := Lib.hid hi
  have HZ0 := Lib.hid hz0
  have HZ1 := Lib.hid hz1
  have HZ2 := Lib.hid hz2
  clear hi hz0 hz1 hz2
  go_enter Tryz.func98, Tryz.ntmps98
  go_wp2
  go_loop [4] (fun z => ∃ k : Nat, z = .int .i64 k ∧ k ≤ zerosL s.size) (fun z => zerosL s.size - (intOf z).toNat)
  case atStart => exact ⟨0, rfl, Nat.zero_le _⟩
  case round =>
    obtain ⟨k, rfl, hk⟩ := hrel
    by_cases hlt : k < zerosL s.size
    · have hne := zerosL_step s.size k hlt
      have hd : ((((s.size : Int) + 1 + (k : Int) + 8) % 64) == 0) = false := by simp; omega
      go_wp2
      go_round
      case rel => exact ⟨k + 1, by go_num, by omega⟩
      case measure => simp [intOf]; omega
    · obtain rfl : k = zerosL s.size := by omega
      have he := zerosL_end s.size
      generalize hZ : zerosL s.size = Z at *
      have HZ := Lib.hid hZ
      have hd : ((((s.size : Int) + 1 + (Z : Int) + 8) % 64) == 0) = true := by simp; omega
      clear hZ he
      have hO1 := (OwnB.conv w w.heap.size (Nat.le_refl _) 5 s (by unfold maxLen; omega)).alloc (.cells #[byteV 128] 5)
      have HO1 := Lib.hid hO1
      have HB1 : Hid (Below w.heap.size w ((Lib.bytesWorld w 5 s).alloc (.cells #[byteV 128] 5))) := Lib.hid ((below_bytes w 5 s).alloc (by rw [Lib.bytesWorld_size]; omega) _)
      have HC1 : Hid (s.data.toList.length + 1 ≤ 140737488355328) := Lib.hid (by simp; omega)
      clear hO1
      go_wp2_with (at_builtin; refine wpList_appendB _ rfl _ _ 79 rfl w.heap.size HB1.out.size 5 i0 Tryz.underlying79 HI.out HZ0.out HZ1.out HZ2.out _ s.data.toList rfl HO1.out _ 1 _ [128] rfl rfl (new_cell _ 128 _ _ rfl) HC1.out ?_)
      intro v2 w2 hO2 hg2
      have bel2 := HB1.out.grown hg2 HB1.out.size (fun k hk => HO1.out.block k hk)
      have HB2 := Lib.hid bel2
      have HO2 := Lib.hid hO2
      have HC2 : Hid ((s.data.toList ++ [128]).length + Z ≤ 140737488355328) := Lib.hid (by simp; omega)
      clear hg2 bel2 hO2 HB1 HO1 HC1 kc hd
      go_wp2_with (at_builtin; refine wpList_appendZ _ rfl _ _ 79 3 rfl w.heap.size HB2.out.size 5 i0 .i64 .i64 Tryz.underlying79 Tryz.underlying3 HI.out HZ0.out HZ1.out HZ2.out _ (s.data.toList ++ [128]) rfl HO2.out Z rfl HC2.out ?_)
      intro v3 w3 hO3 hg3
      have bel3 := HB2.out.grown hg3 HB2.out.size (fun k hk => HO2.out.block k hk)
      have hl3 : (s.data.toList ++ 128 :: List.replicate Z 0).length ≤ 10000100 := by simp; omega
      have he3 : s.data.toList ++ 128 :: List.replicate Z 0 ++ beL 8 (8 * s.size) = padL s.data.toList := by
        have e := HZ.out
        unfold padL
        rw [show s.data.toList.length = s.size from by simp, e]
        simp
      generalize s.data.toList ++ 128 :: List.replicate Z 0 = L3 at *
      have HB3 := Lib.hid bel3
      have HO3 := Lib.hid hO3
      have HE3 := Lib.hid he3
      clear hg3 bel3 hO3 HB2 HO2 HC2 he3
      go_wp2
      go_loopw [5, 6] (fun v i wr => ∃ k : Nat, k ≤ 8 ∧ i = .int .i64 k ∧ OwnB wr w.heap.size 5 v (L3 ++ (beL 8 (8 * s.size)).take k) ∧ Below w.heap.size w wr) (fun _ i _ => 8 - (intOf i).toNat)
      case atStart => exact ⟨0, by omega, rfl, by rw [List.take_zero, List.append_nil]; exact HO3.out, HB3.out⟩
      case round =>
        clear HO3 HB3
        obtain ⟨k, hk, rfl, hO, hB⟩ := hrel
        by_cases hlt : k < 8
        · obtain ⟨b, hb⟩ : ∃ b, b = (beL 8 (8 * s.size)).getD k 0 := ⟨_, rfl⟩
          have hst := takeD (beL 8 (8 * s.size)) k (by rw [beL_length]; omega)
          rw [← hb] at hst
          have hN : (L3 ++ (beL 8 (8 * s.size)).take k).length + 1 ≤ 140737488355328 := by rw [List.length_append, List.length_take, beL_length]; omega
          have hst2 : L3 ++ (beL 8 (8 * s.size)).take k ++ [b] = L3 ++ (beL 8 (8 * s.size)).take (k + 1) := by rw [List.append_assoc, hst]
          generalize hLk : L3 ++ (beL 8 (8 * s.size)).take k = Lk at *
          have HB := Lib.hid hB
          have HO := Lib.hid hO
          have HST := Lib.hid hst2
          have HN := Lib.hid hN
          have HBB := Lib.hid hb
          have HSZ : Hid (∀ o : Obj, w.heap.size ≤ (wr.alloc o).heap.size) := Lib.hid (fun o => Nat.le_trans hB.size (by simp))
          clear hst hst2 hB hO hl3 hN hb hLk
          have hkk : k = 0 ∨ k = 1 ∨ k = 2 ∨ k = 3 ∨ k = 4 ∨ k = 5 ∨ k = 6 ∨ k = 7 := by omega
          clear hlt hk
          rcases hkk with rfl | rfl | rfl | rfl | rfl | rfl | rfl | rfl
          all_goals
            go_wp2_with (at_builtin; refine wpList_appendB _ rfl _ _ 79 rfl w.heap.size (HSZ.out _) 5 i0 Tryz.underlying79 HI.out HZ0.out HZ1.out HZ2.out _ Lk rfl (HO.out.alloc _) _ 1 1 [b] rfl rfl (new_cellV _ _ b _ _ rfl (by rw [HBB.out]; exact byteV_of (by omega))) HN.out ?_)
            intro v4 w4 hO4 hg4
            have HB4 := Lib.hid ((HB.out.alloc HB.out.size _).grown hg4 (HSZ.out _) (fun k hk => HO.out.block k hk))
            have HO4 := Lib.hid hO4
            clear hO4 hg4
            go_wp2
            go_roundw
            case rel =>
              have h5 := HO4.out
              rw [HST.out] at h5
              exact ⟨_, by omega, by go_num, h5, HB4.out⟩
            case measure => simp [intOf]
        · obtain rfl : k = 8 := by omega
          rw [List.take_of_length_le (by rw [beL_length]; omega), HE3.out] at hO
          have hcv := conv_ownB wr w.heap.size _ _ hO
          have HB := Lib.hid hB
          clear hO hB
          go_wp2
          go_ret
          exact ⟨rfl, HB.out⟩
end Go.Proofs.YtggfmnmopfdiaaaGreatDoor
