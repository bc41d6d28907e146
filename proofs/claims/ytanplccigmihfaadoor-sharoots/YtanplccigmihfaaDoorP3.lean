/-
  Contracts of the document's pieces and times.
-/
import Derived.Test.YtanplccigmihfaaDoorSh2
import Derived.Test.YtanplccigmihfaaDoorP2
import Derived.Deep.OwnRows
namespace Go.Proofs.YtanplccigmihfaaDoor
open Go.RowKit Go.Pal

theorem madeU (n : Nat) : madeCells #[Value.int .u64 0] n = (List.replicate n (Value.int .u64 0)).toArray := by
  unfold madeCells
  apply Array.ext
  · simp
  · intro i h1 h2
    simp [Nat.mod_one]
theorem makeU (n : Nat) (hn : n ≤ 1000000) (w : World) : (Instr.makeSlice 61 (.int .i64 (n : Int)) (.int .i64 (n : Int))).run Tryd.prog w = .ok (.slice (some ⟨w.heap.size, 0, none⟩) n n) (w.alloc (.cells (List.replicate n (Value.int .u64 0)).toArray 49)) := by
  have h := run_make_row' (P := Tryd.prog) 61 49 (.int .u64 0) 8 Tryd.underlying61 (by kernel_rfl) rfl .i64 .i64 n (by omega) (by omega) w
  rw [madeU] at h
  exact h

theorem pieces_any (x : Nat) (hx : x < 68719476737) (w : World) :
    Calls Tryd.prog 33 #[.int .u64 (x : Int)] w fun e w' => e = .returned (.slice (some ⟨w.heap.size, 0, none⟩) 4 4) ∧ Blk w' w.heap.size 49 ((piecesL x).map dV) ∧ Below w.heap.size w w' := by
  go_enter Tryd.func33, Tryd.ntmps33
  go_wp2
  go_ret
  refine ⟨rfl, ?_, (Below.refl _ _).alloc (Nat.le_refl _) _⟩
  exact Blk.new' _ _ ((piecesL x).map dV) rfl

set_option maxHeartbeats 1000000 in
set_option maxRecDepth 100000 in
theorem times_any (w : World) (ba bb ca cb : Nat) (A B : List Nat) (hA : Blk w ba 49 (A.map dV)) (hB : Blk w bb 49 (B.map dV)) (hAl : A.length ≤ 1000) (hBl : B.length ≤ 1000) (hAs : ∀ j, dig A j < 65536) (hBs : ∀ j, dig B j < 65536) :
    Calls Tryd.prog 32 #[.slice (some ⟨ba, 0, none⟩) A.length ca, .slice (some ⟨bb, 0, none⟩) B.length cb] w fun e w' => ∃ O : List Nat, e = .returned (.slice (some ⟨w.heap.size, 0, none⟩) O.length O.length) ∧ Outer A B O A.length ∧ Blk w' w.heap.size 49 (O.map dV) ∧ Below w.heap.size w w' := by
  have hm := makeU (A.length + B.length + 1) (by omega) w
  have hq : ((A.length : Int) + (B.length : Int) + 1) = ((A.length + B.length + 1 : Nat) : Int) := by omega
  have HO0 := Lib.hid (Outer.start A B)
  have HB0 : Hid (Blk (w.alloc (.cells (List.replicate (A.length + B.length + 1) (Value.int .u64 0)).toArray 49)) w.heap.size 49 ((List.replicate (A.length + B.length + 1) 0).map dV)) := Lib.hid (by
    rw [List.map_replicate]; exact Blk.new' _ _ _ rfl)
  have HA := Lib.hid hA
  have HB := Lib.hid hB
  have HAS := Lib.hid hAs
  have HBS := Lib.hid hBs
  have hla := hA.lt
  have hlb := hB.lt
  clear hA hB hAs hBs
  obtain ⟨N, hN⟩ : ∃ N, N = A.length + B.length + 1 := ⟨_, rfl⟩
  rw [← hN] at hm hq HO0 HB0
  have hNb : N ≤ 2001 := by omega
  have HN := Lib.hid hN
  clear hN
  go_enter Tryd.func32, Tryd.ntmps32
  go_wp2
  go_loopw [6] (fun vi wr => ∃ (i : Nat) (O : List Nat), i ≤ A.length ∧ vi = .int .i64 i ∧ Outer A B O i ∧ Blk wr w.heap.size 49 (O.map dV) ∧ Below w.heap.size w wr) (fun vi _ => A.length - (intOf vi).toNat)
  case atStart => exact ⟨0, _, by omega, rfl, HO0.out, HB0.out, (Below.refl _ _).alloc (Nat.le_refl _) _⟩
  case round =>
    clear hm hq HO0 HB0
    obtain ⟨i, O, hi, rfl, hout, hblk, hbel⟩ := hrel
    have HOUT := Lib.hid hout
    have HBLK := Lib.hid hblk
    have HBEL := Lib.hid hbel
    clear hout hblk hbel
    by_cases hil : i < A.length
    · have hild : decide ((i : Int) < (A.length : Int)) = true := decide_eq_true (by omega)
      rename World => wa
      go_wp2
      go_loopw [7, 8] (fun vc vk wr => ∃ (k c : Nat) (O : List Nat), k ≤ B.length ∧ vk = .int .i64 k ∧ vc = .int .u64 c ∧ Inner A B O i k c ∧ Blk wr w.heap.size 49 (O.map dV) ∧ Below w.heap.size w wr) (fun _ vk _ => B.length - (intOf vk).toNat)
      case atStart => exact ⟨0, 0, O, by omega, rfl, rfl, HOUT.out.inner, HBLK.out, HBEL.out⟩
      case round =>
        clear HOUT HBLK HBEL O
        obtain ⟨k, c, O, hk, rfl, rfl, hinn, hblk, hbel⟩ := hrel
        have hOl : O.length = N := by rw [hinn.len, HN.out]
        have hOl2 : N = A.length + B.length + 1 := HN.out
        by_cases hkl : k < B.length
        · have cO := (hblk.cell (i + k)).trans (dig_map O (i + k) (by omega))
          have cA := ((HA.out.below hbel hla).cell i).trans (dig_map A i hil)
          have cB := ((HB.out.below hbel hlb).cell k).trans (dig_map B k hkl)
          have fO := hblk.frozen (i + k)
          have sO := hinn.small (i + k)
          have sA := HAS.out i
          have sB := HBS.out k
          have sC := hinn.carry
          have hpr := mul_small sA sB
          have HNX := Lib.hid (hinn.next HAS.out HBS.out hil hkl)
          have hS : sumAt A B O i k c = dig O (i + k) + dig A i * dig B k + c := rfl
          have HSET := Lib.hid (fun v => (hblk.drew).set (i + k) (dV v))
          have HBST := Lib.hid (fun v => (hbel.drew).setCell (p := ⟨w.heap.size, i + k, none⟩) (Nat.le_refl _) (dV v))
          rw [hS] at HNX
          generalize dig O (i + k) = o at *
          generalize dig A i = a at *
          generalize dig B k = b at *
          obtain ⟨m, hmm⟩ : ∃ m, m = a * b := ⟨_, rfl⟩
          have hmi : (a : Int) * (b : Int) = (m : Int) := by rw [hmm, Int.natCast_mul]
          rw [← hmm] at HNX hpr
          have i0 : (0 : Int) ≤ (i : Int) + (k : Int) := by omega
          have i1 : (i : Int) + (k : Int) < (N : Int) := by omega
          have i2 : IntKind.i64.wrap ((i : Int) + (k : Int)) = (i : Int) + (k : Int) := by rw [IntKind.wrap_i64]; omega
          have i3 : ((i : Int) + (k : Int)).toNat = i + k := by omega
          have i4 : (0 : Int) ≤ (i : Int) := by omega
          have i5 : (i : Int) < (A.length : Int) := by omega
          have i6 : (0 : Int) ≤ (k : Int) := by omega
          have i7 : (k : Int) < (B.length : Int) := by omega
          have j1 : IntKind.u64.wrap (m : Int) = (m : Int) := by rw [IntKind.wrap_u64]; omega
          have j2 : IntKind.u64.wrap ((o : Int) + (m : Int)) = (o : Int) + (m : Int) := by rw [IntKind.wrap_u64]; omega
          have j3 : IntKind.u64.wrap ((o : Int) + (m : Int) + (c : Int)) = (o : Int) + (m : Int) + (c : Int) := by rw [IntKind.wrap_u64]; omega
          clear hmm hS hinn hblk hbel hOl hOl2
          go_wp2
          go_region
          go_wp2
          go_roundw
          case rel =>
            refine ⟨k + 1, (o + m + c) / 65536, _, by omega, by go_num, by go_num, HNX.out, ?_, ?_⟩
            · have h1 := HSET.out ((o + m + c) % 65536)
              rw [map_set] at h1
              exact h1
            · exact HBST.out ((o + m + c) % 65536)
          case measure => simp [intOf]; omega
        · obtain rfl : k = B.length := by omega
          have cO := (hblk.cell (i + B.length)).trans (dig_map O (i + B.length) (by omega))
          rw [hinn.empty _ (Nat.le_refl _)] at cO
          have fO := hblk.frozen (i + B.length)
          have sC := hinn.carry
          have HNX := Lib.hid (hinn.outer hil)
          have HSET := Lib.hid (fun v => hblk.set (i + B.length) (dV v))
          have HBST := Lib.hid (fun v => hbel.setCell (p := ⟨w.heap.size, i + B.length, none⟩) (Nat.le_refl _) (dV v))
          have i0 : (0 : Int) ≤ (i : Int) + (B.length : Int) := by omega
          have i1 : (i : Int) + (B.length : Int) < (N : Int) := by omega
          have i3 : ((i : Int) + (B.length : Int)).toNat = i + B.length := by omega
          clear hinn hblk hbel hOl hOl2
          go_wp2
          go_roundw
          case rel =>
            refine ⟨i + 1, _, by omega, by go_num, HNX.out, ?_, ?_⟩
            · have h1 := HSET.out c
              rw [map_set] at h1
              exact h1
            · exact HBST.out c
          case measure => simp [intOf]; omega
    · obtain rfl : i = A.length := by omega
      have hOl : O.length = N := by rw [HOUT.out.len, HN.out]
      have HOL := Lib.hid hOl
      clear hOl
      go_wp2
      go_ret
      exact ⟨O, by rw [HOL.out]; rfl, HOUT.out, HBLK.out, HBEL.out⟩
end Go.Proofs.YtanplccigmihfaaDoor
