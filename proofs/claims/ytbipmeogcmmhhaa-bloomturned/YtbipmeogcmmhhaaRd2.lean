/-
  Contracts of a reader's numbers and texts, of Left and End; of a nil reader.
-/
import Derived.Test.YtbipmeogcmmhhaaRd1
import Derived.Test.YtbipmeogcmmhhaaOct3
import Derived.Lib.Hide
namespace Go.Proofs.Ytbipmeogcmmhhaa
open Go.RowKit Go.Pal

theorem wraps_i64 (n : Int) (h0 : 0 ≤ n) (h1 : n < 2 ^ 62) : IntKind.i64.wrap n = n := by rw [IntKind.wrap_i64]; omega
theorem or_byte (a : Int) (x : UInt8) (h0 : 0 ≤ a) (h1 : a < 1125899906842624) : bits .or .i64 (wrap64 (a * 256)) (wrap64 (x.toNat : Int)) = 256 * a + x.toNat := by
  have hx := x.toNat_lt
  have e1 : wrap64 (a * 256) = a * 256 := by unfold wrap64; omega
  have e2 : wrap64 (x.toNat : Int) = x.toNat := by unfold wrap64; omega
  rw [e1, e2, bits_join .i64 62 (by decide) wraps_i64 8 (a * 256) x.toNat (by omega) (by omega) (by omega) (by omega) (by omega) (by omega)]
  omega
theorem or_zero (x : UInt8) : bits .or .i64 0 (wrap64 (x.toNat : Int)) = x.toNat := by
  have := or_byte 0 x (by omega) (by omega)
  simpa [wrap64] using this

theorem size_one {s : ByteArray} (h : s.size = 1) : ∃ x, s = ⟨#[x]⟩ := by
  obtain ⟨⟨l⟩⟩ := s
  match l, h with
  | [x], _ => exact ⟨x, rfl⟩
theorem size_two {s : ByteArray} (h : s.size = 2) : ∃ x y, s = ⟨#[x, y]⟩ := by
  obtain ⟨⟨l⟩⟩ := s
  match l, h with
  | [x, y], _ => exact ⟨x, y, rfl⟩
theorem size_four {s : ByteArray} (h : s.size = 4) : ∃ x y z u, s = ⟨#[x, y, z, u]⟩ := by
  obtain ⟨⟨l⟩⟩ := s
  match l, h with
  | [x, y, z, u], _ => exact ⟨x, y, z, u, rfl⟩

theorem rdOut_size {k : Nat} {r : ByteArray} {bad : Bool} (h : rdOk k r bad = true) : (rdOut k r bad).size = k := by
  simp only [rdOut, h, if_true, ByteArray.size_extract]
  simp [rdOk] at h
  simp
  omega
theorem rdOut_none {k : Int} {r : ByteArray} {bad : Bool} (h : rdOk k r bad = false) : rdOut k r bad = ByteArray.empty := by
  simp [rdOut, h]

theorem join1 (x : UInt8) : bits BinOp.or IntKind.i64 0 (wrap64 (x.toNat : Int)) = (valL [x] : Int) := by
  have b0 := x.toNat_lt
  rw [or_zero]
  simp [valL]

set_option maxHeartbeats 400000 in
theorem number_one_yes (w : World) (b : Nat) (r : ByteArray) (bad : Bool) (h : Rd w b r bad) (hz : r.size ≤ 281474976710656) (hk : rdOk 1 r bad = true) :
    Calls Try.prog 74 #[.pointer (some ⟨b, 0, none⟩), .int .i64 1] w fun e w' => e = .returned (.int .i64 (valL (rdOut 1 r bad).data.toList)) ∧ Rd w' b (rdRest 1 r bad) (!rdOk 1 r bad) ∧ w.grownBy w' (some b) := by
  have ht := take_any 1 w b r bad h hz
  have hs : (rdOut 1 r bad).size = 1 := rdOut_size (k := 1) hk
  generalize rdRest 1 r bad = R at *
  generalize rdOut 1 r bad = T at *
  obtain ⟨x, rfl⟩ := size_one hs
  have HT := Lib.hid ht
  clear ht hs hk
  go_enter Try.func74, Try.ntmps74
  go_wp2_with (go_at_call 88; refine HT.out.mono ?_; rintro e w' ⟨rfl, hb⟩)
  refine wp_loop_rounds 2 ?_; rw [rounds_succ]
  go_wp2
  rw [rounds_succ]
  go_wp2
  go_ret
  exact ⟨ret_i (join1 x), hb⟩

set_option maxHeartbeats 400000 in
theorem number_one_no (w : World) (b : Nat) (r : ByteArray) (bad : Bool) (h : Rd w b r bad) (hz : r.size ≤ 281474976710656) (hk : rdOk 1 r bad = false) :
    Calls Try.prog 74 #[.pointer (some ⟨b, 0, none⟩), .int .i64 1] w fun e w' => e = .returned (.int .i64 (valL (rdOut 1 r bad).data.toList)) ∧ Rd w' b (rdRest 1 r bad) (!rdOk 1 r bad) ∧ w.grownBy w' (some b) := by
  have ht := take_any 1 w b r bad h hz
  rw [rdOut_none hk] at ht ⊢
  generalize rdRest 1 r bad = R at *
  have HT := Lib.hid ht
  clear ht hk
  go_enter Try.func74, Try.ntmps74
  go_wp2_with (go_at_call 88; refine HT.out.mono ?_; rintro e w' ⟨rfl, hb⟩)
  refine wp_loop_rounds 1 ?_; rw [rounds_succ]
  go_wp2
  go_ret
  exact ⟨rfl, hb⟩



theorem join2 (x y : UInt8) : bits BinOp.or IntKind.i64 (wrap64 (bits BinOp.or IntKind.i64 0 (wrap64 (x.toNat : Int)) * 256)) (wrap64 (y.toNat : Int)) = (valL [x, y] : Int) := by
  have b0 := x.toNat_lt
  have b1 := y.toNat_lt
  rw [or_zero, or_byte _ y (by omega) (by omega)]
  simp [valL]

set_option maxHeartbeats 400000 in
theorem number_two_yes (w : World) (b : Nat) (r : ByteArray) (bad : Bool) (h : Rd w b r bad) (hz : r.size ≤ 281474976710656) (hk : rdOk 2 r bad = true) :
    Calls Try.prog 74 #[.pointer (some ⟨b, 0, none⟩), .int .i64 2] w fun e w' => e = .returned (.int .i64 (valL (rdOut 2 r bad).data.toList)) ∧ Rd w' b (rdRest 2 r bad) (!rdOk 2 r bad) ∧ w.grownBy w' (some b) := by
  have ht := take_any 2 w b r bad h hz
  have hs : (rdOut 2 r bad).size = 2 := rdOut_size (k := 2) hk
  generalize rdRest 2 r bad = R at *
  generalize rdOut 2 r bad = T at *
  obtain ⟨x, y, rfl⟩ := size_two hs
  have HT := Lib.hid ht
  clear ht hs hk
  go_enter Try.func74, Try.ntmps74
  go_wp2_with (go_at_call 88; refine HT.out.mono ?_; rintro e w' ⟨rfl, hb⟩)
  refine wp_loop_rounds 3 ?_; rw [rounds_succ]
  go_wp2
  rw [rounds_succ]
  go_wp2
  rw [rounds_succ]
  go_wp2
  go_ret
  exact ⟨ret_i (join2 x y), hb⟩

set_option maxHeartbeats 400000 in
theorem number_two_no (w : World) (b : Nat) (r : ByteArray) (bad : Bool) (h : Rd w b r bad) (hz : r.size ≤ 281474976710656) (hk : rdOk 2 r bad = false) :
    Calls Try.prog 74 #[.pointer (some ⟨b, 0, none⟩), .int .i64 2] w fun e w' => e = .returned (.int .i64 (valL (rdOut 2 r bad).data.toList)) ∧ Rd w' b (rdRest 2 r bad) (!rdOk 2 r bad) ∧ w.grownBy w' (some b) := by
  have ht := take_any 2 w b r bad h hz
  rw [rdOut_none hk] at ht ⊢
  generalize rdRest 2 r bad = R at *
  have HT := Lib.hid ht
  clear ht hk
  go_enter Try.func74, Try.ntmps74
  go_wp2_with (go_at_call 88; refine HT.out.mono ?_; rintro e w' ⟨rfl, hb⟩)
  refine wp_loop_rounds 1 ?_; rw [rounds_succ]
  go_wp2
  go_ret
  exact ⟨rfl, hb⟩


theorem join4 (x y z u : UInt8) : bits BinOp.or IntKind.i64 (wrap64 (bits BinOp.or IntKind.i64 (wrap64 (bits BinOp.or IntKind.i64 (wrap64 (bits BinOp.or IntKind.i64 0 (wrap64 (x.toNat : Int)) * 256)) (wrap64 (y.toNat : Int)) * 256)) (wrap64 (z.toNat : Int)) * 256)) (wrap64 (u.toNat : Int)) = (valL [x, y, z, u] : Int) := by
  have b0 := x.toNat_lt
  have b1 := y.toNat_lt
  have b2 := z.toNat_lt
  have b3 := u.toNat_lt
  rw [or_zero, or_byte _ y (by omega) (by omega), or_byte _ z (by omega) (by omega), or_byte _ u (by omega) (by omega)]
  simp [valL]

set_option maxHeartbeats 400000 in
theorem number_four_yes (w : World) (b : Nat) (r : ByteArray) (bad : Bool) (h : Rd w b r bad) (hz : r.size ≤ 281474976710656) (hk : rdOk 4 r bad = true) :
    Calls Try.prog 74 #[.pointer (some ⟨b, 0, none⟩), .int .i64 4] w fun e w' => e = .returned (.int .i64 (valL (rdOut 4 r bad).data.toList)) ∧ Rd w' b (rdRest 4 r bad) (!rdOk 4 r bad) ∧ w.grownBy w' (some b) := by
  have ht := take_any 4 w b r bad h hz
  have hs : (rdOut 4 r bad).size = 4 := rdOut_size (k := 4) hk
  generalize rdRest 4 r bad = R at *
  generalize rdOut 4 r bad = T at *
  obtain ⟨x, y, z, u, rfl⟩ := size_four hs
  have HT := Lib.hid ht
  clear ht hs hk
  go_enter Try.func74, Try.ntmps74
  go_wp2_with (go_at_call 88; refine HT.out.mono ?_; rintro e w' ⟨rfl, hb⟩)
  refine wp_loop_rounds 5 ?_; rw [rounds_succ]
  go_wp2
  rw [rounds_succ]
  go_wp2
  rw [rounds_succ]
  go_wp2
  rw [rounds_succ]
  go_wp2
  rw [rounds_succ]
  go_wp2
  go_ret
  exact ⟨ret_i (join4 x y z u), hb⟩

set_option maxHeartbeats 400000 in
theorem number_four_no (w : World) (b : Nat) (r : ByteArray) (bad : Bool) (h : Rd w b r bad) (hz : r.size ≤ 281474976710656) (hk : rdOk 4 r bad = false) :
    Calls Try.prog 74 #[.pointer (some ⟨b, 0, none⟩), .int .i64 4] w fun e w' => e = .returned (.int .i64 (valL (rdOut 4 r bad).data.toList)) ∧ Rd w' b (rdRest 4 r bad) (!rdOk 4 r bad) ∧ w.grownBy w' (some b) := by
  have ht := take_any 4 w b r bad h hz
  rw [rdOut_none hk] at ht ⊢
  generalize rdRest 4 r bad = R at *
  have HT := Lib.hid ht
  clear ht hk
  go_enter Try.func74, Try.ntmps74
  go_wp2_with (go_at_call 88; refine HT.out.mono ?_; rintro e w' ⟨rfl, hb⟩)
  refine wp_loop_rounds 1 ?_; rw [rounds_succ]
  go_wp2
  go_ret
  exact ⟨rfl, hb⟩

set_option maxHeartbeats 400000 in
theorem rlong_any (w : World) (b : Nat) (r : ByteArray) (bad : Bool) (h : Rd w b r bad) (hz : r.size ≤ 281474976710656) :
    Calls Try.prog 61 #[.pointer (some ⟨b, 0, none⟩)] w fun e w' => e = .returned (.int .i64 (valL (rdOut 4 r bad).data.toList)) ∧ Rd w' b (rdRest 4 r bad) (!rdOk 4 r bad) ∧ w.grownBy w' (some b) := by
  have hn : Calls Try.prog 74 #[.pointer (some ⟨b, 0, none⟩), .int .i64 4] w fun e w' => e = .returned (.int .i64 (valL (rdOut 4 r bad).data.toList)) ∧ Rd w' b (rdRest 4 r bad) (!rdOk 4 r bad) ∧ w.grownBy w' (some b) := by
    cases hk : rdOk 4 r bad with
    | true => have := number_four_yes w b r bad h hz hk; rwa [hk] at this
    | false => have := number_four_no w b r bad h hz hk; rwa [hk] at this
  have HN := Lib.hid hn
  clear hn
  go_enter Try.func61, Try.ntmps61
  go_wp2_with (go_at_call 74; refine HN.out.mono ?_; rintro e w' ⟨rfl, hb⟩)
  go_ret
  exact ⟨rfl, hb⟩

set_option maxHeartbeats 400000 in
theorem rlong_nil (w : World) :
    Calls Try.prog 61 #[.pointer none] w fun e w' => e = .returned (.int .i64 0) ∧ w = w' := by
  have hn : Calls Try.prog 74 #[.pointer none, .int .i64 4] w fun e w' => e = .returned (.int .i64 0) ∧ w = w' := by
    go_enter Try.func74, Try.ntmps74
    go_wp2_with (go_at_call 88; refine (take_nil _ _).mono ?_; rintro e w' ⟨rfl, rfl⟩)
    refine wp_loop_rounds 1 ?_; rw [rounds_succ]
    go_wp2
    go_ret
    exact ⟨rfl, rfl⟩
  have HN := Lib.hid hn
  clear hn
  go_enter Try.func61, Try.ntmps61
  go_wp2_with (go_at_call 74; refine HN.out.mono ?_; rintro e w' ⟨rfl, rfl⟩)
  go_ret
  exact ⟨rfl, rfl⟩


end Go.Proofs.Ytbipmeogcmmhhaa
