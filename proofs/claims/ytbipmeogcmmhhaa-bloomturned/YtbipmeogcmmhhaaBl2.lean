/-
  Contracts of bloom.Places.
-/
import Derived.Test.YtbipmeogcmmhhaaBl1
import Derived.Test.YtbipmeogcmmhhaaRd3
import Derived.Test.YtbipmeogcmmhhaaBlk
namespace Go.Proofs.Ytbipmeogcmmhhaa
open Go.RowKit Go.Pal
set_option linter.unusedVariables false

/-- The places as values. -/
def plV (id : ByteArray) (m : Int) : List Value := [.int .i64 (placeB id m 0 : Nat), .int .i64 (placeB id m 1 : Nat), .int .i64 (placeB id m 2 : Nat), .int .i64 (placeB id m 3 : Nat)]

theorem rd_first (id : ByteArray) (h : id.size = 32) : rdOk 4 id false = true ∧ rdOut 4 id false = id.extract 0 4 ∧ rdRest 4 id false = id.extract 4 32 := by
  have hk : rdOk 4 id false = true := by simp [rdOk]; omega
  refine ⟨hk, by simp [rdOut, hk], by simp [rdRest, hk, h]⟩
theorem rd_second (id : ByteArray) (h : id.size = 32) : rdOk 4 (id.extract 4 32) false = true ∧ rdOut 4 (id.extract 4 32) false = id.extract 4 8 := by
  have hs : (id.extract 4 32).size = 28 := by rw [ByteArray.size_extract]; omega
  have hk : rdOk 4 (id.extract 4 32) false = true := by simp [rdOk]; omega
  refine ⟨hk, ?_⟩
  simp only [rdOut, hk, if_true]
  rw [ByteArray.extract_extract]
  rfl
theorem val4_lt (s : ByteArray) (h : s.size = 4) : valL s.data.toList < 4294967296 := by
  have h1 := valL_lt s.data.toList
  have h2 : s.data.toList.length = 4 := by simpa using h
  rw [h2] at h1
  exact h1

theorem w64 (x : Int) (h0 : 0 ≤ x) (h1 : x < 4611686018427387904) : wrap64 x = x := by unfold wrap64; omega
theorem tmod_nat {x : Int} {s m t : Nat} (ht : t = s % m) (hx : x = (s : Int)) : x.tmod (m : Int) = (t : Int) := by subst ht hx; rfl

set_option maxHeartbeats 1000000 in
theorem places_no (id : ByteArray) (m : Int) (h : placedB id m = false) (w : World) :
    Calls Try.prog 38 #[.string id, .int .i64 m] w fun e w' => e = .returned (.slice none 0 0) ∧ w = w' := by
  have h' : ¬ (id.size = 32 ∧ 1 ≤ m ∧ m ≤ 4096) := of_decide_eq_false h
  by_cases h1 : id.size = 32
  · have d1 : ((id.size : Int) != 32) = false := by simp; omega
    by_cases h2 : m < 1
    · have d2 : decide (m < 1) = true := by simp; omega
      clear h h' h1 h2
      go_enter Try.func38, Try.ntmps38
      go_wp2
      go_ret
      exact ⟨rfl, rfl⟩
    · have d2 : decide (m < 1) = false := by simp; omega
      have d3 : decide (4096 < m) = true := by simp; omega
      clear h h' h1 h2
      go_enter Try.func38, Try.ntmps38
      go_wp2
      go_ret
      exact ⟨rfl, rfl⟩
  · have d1 : ((id.size : Int) != 32) = true := by simp; omega
    clear h h' h1
    go_enter Try.func38, Try.ntmps38
    go_wp2
    go_ret
    exact ⟨rfl, rfl⟩

set_option maxHeartbeats 2000000 in
set_option maxRecDepth 100000 in
theorem places_yes (id : ByteArray) (m : Nat) (h : id.size = 32) (h1 : 1 ≤ m) (h2 : m ≤ 4096) (w : World) :
    Calls Try.prog 38 #[.string id, .int .i64 m] w fun e w' => ∃ g, e = .returned (.slice (some ⟨g, 0, none⟩) 4 4) ∧ Blk w' g 3 (plV id m) ∧ w.heap.size ≤ g ∧ Below w.heap.size w w' := by
  have d1 : ((id.size : Int) != 32) = false := by simp; omega
  have d2 : decide ((m : Int) < 1) = false := by simp; omega
  have d3 : decide (4096 < (m : Int)) = false := by simp; omega
  have r1 := rd_first id h
  have r2 := rd_second id h
  have hv1 := val4_lt (id.extract 0 4) (by rw [ByteArray.size_extract]; omega)
  have hv2 := val4_lt (id.extract 4 8) (by rw [ByteArray.size_extract]; omega)
  have hl1 := fun w b (q : Rd w b id false) => rlong_any w b id false q (by omega)
  have hl2 := fun w b (q : Rd w b (id.extract 4 32) false) => rlong_any w b (id.extract 4 32) false q (by rw [ByteArray.size_extract]; omega)
  simp only [r1.1, r1.2.1, r1.2.2, Bool.not_true] at hl1
  simp only [r2.2, r2.1, Bool.not_true] at hl2
  have hp : ∀ i, placeB id m i = (valL (id.extract 0 4).data.toList + i * oddB (valL (id.extract 4 8).data.toList)) % m := fun i => rfl
  generalize valL (id.extract 0 4).data.toList = a at *
  generalize valL (id.extract 4 8).data.toList = b at *
  have ho := odd_bits b hv2
  have hob : oddB b < 4294967296 := by rw [oddB_eq]; omega
  have HP := Lib.hid hp
  have HL1 := Lib.hid hl1
  have HL2 := Lib.hid hl2
  have HV := Lib.hid hv1
  have HOB := Lib.hid hob
  have H1 := Lib.hid h1
  have H2 := Lib.hid h2
  clear r1 r2 hp hl1 hl2 hv2 hv1 hob h1 h2
  unfold plV
  go_enter Try.func38, Try.ntmps38
  have hmk : ∀ w : World, (Instr.makeSlice 46 (.int .i64 4) (.int .i64 4)).run Try.prog w = .ok (.slice (some ⟨w.heap.size, 0, none⟩) 4 4) (w.alloc (.cells #[.int .i64 0, .int .i64 0, .int .i64 0, .int .i64 0] 3)) := fun _ => by kernel_rfl
  have hm0 : ((m : Int) = 0) = False := by have := H1.out; simp; omega
  have hm1 : (m = 0) = False := by have := H1.out; simp; omega
  have Q1 := Lib.hid (rd_new id w)
  have hb1 : Below w.heap.size w (w.alloc (.cells #[.string id, .bool false] 91)) := (Below.refl _ _).alloc (Nat.le_refl _) _
  have HB1 := Lib.hid hb1
  clear hb1
  go_wp2_with (first | (go_at_call 60; refine (read_any id _).mono ?_; rintro e w1 ⟨rfl, e1⟩; rw [← e1] at Q1 HB1; clear e1) | (go_at_call 61; refine (HL2.out _ _ Q2.out).mono ?_; rintro e w3 ⟨rfl, -, hg3⟩; have HG3 := Lib.hid hg3; clear hg3) | (go_at_call 61; refine (HL1.out _ _ Q1.out).mono ?_; rintro e w2 ⟨rfl, q2, hg2⟩; have Q2 := Lib.hid q2; have HG2 := Lib.hid hg2; clear q2 hg2))
  refine wp_loop_rounds 5 ?_
  rw [rounds_succ]
  go_wp2
  rw [rounds_succ]
  go_wp2
  rw [rounds_succ]
  go_wp2
  rw [rounds_succ]
  go_wp2
  rw [rounds_succ]
  go_wp2
  go_ret
  refine ⟨_, rfl, ?_, ?_, ?_⟩
  · have hv := HV.out
    have hob := HOB.out
    generalize oddB b = o at *
    have e0 : (wrap64 (a : Int)).tmod (m : Int) = (placeB id m 0 : Nat) := tmod_nat (HP.out 0) (by rw [w64 _ (by omega) (by omega)]; omega)
    have e1 : (wrap64 ((a : Int) + wrap64 (o : Int))).tmod (m : Int) = (placeB id m 1 : Nat) := tmod_nat (HP.out 1) (by rw [w64 (o : Int) (by omega) (by omega), w64 _ (by omega) (by omega)]; omega)
    have e2 : (wrap64 ((a : Int) + wrap64 (2 * (o : Int)))).tmod (m : Int) = (placeB id m 2 : Nat) := tmod_nat (HP.out 2) (by rw [w64 (2 * (o : Int)) (by omega) (by omega), w64 _ (by omega) (by omega)]; omega)
    have e3 : (wrap64 ((a : Int) + wrap64 (3 * (o : Int)))).tmod (m : Int) = (placeB id m 3 : Nat) := tmod_nat (HP.out 3) (by rw [w64 (3 * (o : Int)) (by omega) (by omega), w64 _ (by omega) (by omega)]; omega)
    rw [e0, e1, e2, e3]
    exact Blk.new _ _ _
  · exact Nat.le_trans HB1.out.size (Nat.le_trans HG2.out.size HG3.out.size)
  · exact ((HB1.out.grown HG2.out HB1.out.size (by rintro k ⟨⟩; exact Nat.le_refl _)).grown HG3.out (Nat.le_trans HB1.out.size HG2.out.size) (by rintro k ⟨⟩; exact Nat.le_refl _)).alloc (Nat.le_trans HB1.out.size (Nat.le_trans HG2.out.size HG3.out.size)) _
end Go.Proofs.Ytbipmeogcmmhhaa
