/-
  Contract of sha.digest: the state as 32 bytes.
-/
import Derived.Test.YtggfmnmopfdiaaaGreatDoorSh3
import Derived.Laws.BytesArg
namespace Go.Proofs.YtggfmnmopfdiaaaGreatDoor
open Go.RowKit Go.Pal

theorem out_cells (s : St) (k : Nat) (hk : k < 8) : ((outS s).map byteV)[4 * k]? = some (.int .u8 ((byteAt (s.list.getD k 0) 24).toNat)) ∧ ((outS s).map byteV)[4 * k + 1]? = some (.int .u8 ((byteAt (s.list.getD k 0) 16).toNat)) ∧
    ((outS s).map byteV)[4 * k + 2]? = some (.int .u8 ((byteAt (s.list.getD k 0) 8).toNat)) ∧ ((outS s).map byteV)[4 * k + 3]? = some (.int .u8 ((byteAt (s.list.getD k 0) 0).toNat)) := by
  have h8 : k = 0 ∨ k = 1 ∨ k = 2 ∨ k = 3 ∨ k = 4 ∨ k = 5 ∨ k = 6 ∨ k = 7 := by omega
  rcases h8 with rfl | rfl | rfl | rfl | rfl | rfl | rfl | rfl <;> exact ⟨rfl, rfl, rfl, rfl⟩

theorem nums_bytes (l : List UInt8) : strOfNums (l.map fun b => (b.toNat : Int)) = ⟨l.toArray⟩ := by
  have e : (l.map fun b => (b.toNat : Int)).map (fun n => UInt8.ofNat n.toNat) = l := by
    rw [List.map_map]
    conv => rhs; rw [← List.map_id l]
    apply List.map_congr_left
    intro b _
    simp
  unfold strOfNums
  rw [e]

set_option maxHeartbeats 1000000 in
set_option maxRecDepth 100000 in
theorem digest_any (w : World) (S : Nat) (s : St) (hS : Blk w S 134 s.vals) :
    Calls Tryz.prog 107 #[.pointer (some ⟨S, 0, none⟩)] w fun e w' => e = .returned (.string ⟨(outS s).toArray⟩) ∧ Below w.heap.size w w' := by
  have hlt := hS.lt
  have hcell := fun (k : Nat) (hk : k < 8) => (cell8 s s k hk).1
  have hout := out_cells s
  have hO : ((outS s).map byteV).length = 32 := rfl
  generalize hV : (outS s).map byteV = V at *
  have HV := Lib.hid hV
  clear hV
  go_enter Tryz.func107, Tryz.ntmps107
  go_wp2
  go_loopw [8] (fun i wr => ∃ k : Nat, k ≤ 8 ∧ i = .int .i64 k ∧ Blk wr w.heap.size 160 (fill V 32 (.int .u8 0) (4 * k)) ∧ Below w.heap.size w wr) (fun i _ => 8 - (intOf i).toNat)
  case atStart =>
    refine ⟨0, by omega, rfl, ?_, (Below.refl _ _).alloc (Nat.le_refl _) _⟩
    show Blk _ _ _ (List.replicate 32 (.int .u8 0))
    exact Blk.new' _ _ _ rfl
  case round =>
    obtain ⟨k, hk, rfl, hB, hb⟩ := hrel
    by_cases hlt8 : k < 8
    · have hS' := hS.below hb hlt
      have c0 := (hS'.cell k).trans (hcell k hlt8)
      obtain ⟨o0, o1, o2, o3⟩ := hout k hlt8
      generalize s.list.getD k 0 = x at *
      have p0 := u_nonneg x
      have p1 := u_le x
      have d0 := (hB.cell (4 * k)).trans (fill_get _ _ _ _ (by omega) (by omega))
      have B1 := hB.set (4 * k) (V[4 * k]'(by omega))
      rw [fill_set _ _ _ _ (by omega) (by omega), (List.getElem_eq_iff _).2 o0] at B1
      have B2 := B1.set (4 * k + 1) (V[4 * k + 1]'(by omega))
      rw [fill_set _ _ _ _ (by omega) (by omega), (List.getElem_eq_iff _).2 o1] at B2
      have B3 := B2.set (4 * k + 2) (V[4 * k + 2]'(by omega))
      rw [fill_set _ _ _ _ (by omega) (by omega), (List.getElem_eq_iff _).2 o2] at B3
      have B4 := B3.set (4 * k + 3) (V[4 * k + 3]'(by omega))
      rw [fill_set _ _ _ _ (by omega) (by omega), (List.getElem_eq_iff _).2 o3] at B4
      have d1 := (hB.cell (4 * k + 1)).trans (fill_later _ _ _ _ _ (by omega) (by omega) (by omega))
      have d2 := (hB.cell (4 * k + 2)).trans (fill_later _ _ _ _ _ (by omega) (by omega) (by omega))
      have d3 := (hB.cell (4 * k + 3)).trans (fill_later _ _ _ _ _ (by omega) (by omega) (by omega))
      have f0 := hB.frozen (4 * k)
      have f1 := hB.frozen (4 * k + 1)
      have f2 := hB.frozen (4 * k + 2)
      have f3 := hB.frozen (4 * k + 3)
      have H4 := Lib.hid B4
      have HB := Lib.hid hb
      have e0 := byteAt24 x
      have e1 := byteAt16 x
      have e2 := byteAt8 x
      have e3 := byteAt0 x
      clear hS' hS hcell hout o0 o1 o2 o3 B1 B2 B3 B4 hO HV hb hB
      go_wp2
      go_quiet (fail)
      go_wp2
      refine wp_loop_rounds 5 ?_; rw [rounds_succ]
      go_wp2
      rw [rounds_succ]
      go_wp2
      rw [rounds_succ]
      go_wp2
      rw [rounds_succ]
      go_wp2
      rw [rounds_succ]
      go_wp2
      go_roundw
      case rel =>
        refine ⟨k + 1, by omega, by go_num, ?_, ?_⟩
        · exact H4.out
        · exact below_drewN ((((HB.out.setCell (p := ⟨w.heap.size, 4 * k, none⟩) (Nat.le_refl _) _).setCell (p := ⟨w.heap.size, 4 * k + 1, none⟩) (Nat.le_refl _) _).setCell (p := ⟨w.heap.size, 4 * k + 2, none⟩) (Nat.le_refl _) _).setCell (p := ⟨w.heap.size, 4 * k + 3, none⟩) (Nat.le_refl _) _) _
      case measure => simp [intOf]; omega
    · obtain rfl : k = 8 := by omega
      have hfull := fill_all V (.int .u8 0)
      rw [hO] at hfull
      rw [show 4 * 8 = 32 from rfl, hfull] at hB
      have hcv : (convert 79 9 (.slice (some ⟨w.heap.size, 0, none⟩) 32 32)).run Tryz.prog wr = .ok (.string ⟨(outS s).toArray⟩) wr := by
        have := run_convert_bytes_arg (P := Tryz.prog) wr 79 5 Tryz.underlying79 Tryz.underlying5 w.heap.size 0 32 32 ((outS s).map fun b => (b.toNat : Int)) (by simp [outS_length]) (fun i hi => by
          rw [Nat.zero_add, hB.cell i, ← HV.out]
          have hi' : i < (outS s).length := by rw [outS_length]; exact hi
          simp [hi', byteV]) 9 Tryz.underlying9
        rw [this]
        rw [nums_bytes]
      have HB := Lib.hid hb
      clear hfull hB hb hcell hout hO HV hS hk hlt8
      go_wp2
      go_ret
      exact ⟨rfl, HB.out⟩
end Go.Proofs.YtggfmnmopfdiaaaGreatDoor
