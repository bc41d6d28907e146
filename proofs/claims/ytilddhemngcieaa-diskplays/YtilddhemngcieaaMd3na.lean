/- does, for one head: tools/does.py. -/
import Derived.Test.YtilddhemngcieaaMd3
namespace Go.Proofs.Ytilddhemngcieaa
open Go.RowKit Go.Pal Go.Pal.Dk

set_option linter.unusedSimpArgs false in
set_option linter.unusedVariables false in
set_option maxHeartbeats 2000000 in
set_option maxRecDepth 100000 in
theorem does_n_bad {w : World} {base M : Nat} {v : Value} {k : Nat} {room : Nat} {fs : List Fl} (h : MdAt w base M (⟨room, fs, true, none⟩ : Dk) v (k + 1)) (good : GoodD (⟨room, fs, true, none⟩ : Dk)) (hlen : fs.length ≤ 1000000) (hb : base ≤ w.heap.size) (kind : Int) (nm dt : ByteArray) (m : Int) (a : Option Addr) (kl cc : Nat)
    (hk : kind = 0 ∨ kind = 1 ∨ kind = 2) (hno : nameOk nm = false) (hz1 : nm.size ≤ maxLen) (hz2 : dt.size ≤ maxLen) (hcm : -9223372036854775808 ≤ m ∧ m ≤ 9223372036854775807) :
    Calls Try.prog 26 #[.pointer (some ⟨M, 0, none⟩), .agg #[.int .i64 kind, .string nm, .string dt, .int .i64 m, .slice a kl cc]] w fun e w' => e = .returned (.int .i64 (opD (⟨room, fs, true, none⟩ : Dk) kind nm dt m).1) ∧ MWent w base M v (opD (⟨room, fs, true, none⟩ : Dk) kind nm dt m).2 w' := by
  unfold maxLen at hz1 hz2
  obtain ⟨W0, hW0⟩ : ∃ W0, W0 = w.alloc (.cells #[.int .i64 kind, .string nm, .string dt, .int .i64 m, .slice a kl cc] 51) := ⟨_, rfl⟩
  have hm0 : MdAt W0 base M (⟨room, fs, true, none⟩ : Dk) v (k + 1) := by rw [hW0]; exact h.below (new_below w _) (Nat.le_refl _)
  have bx0 : Blk W0 w.heap.size 51 [.int .i64 kind, .string nm, .string dt, .int .i64 m, .slice a kl cc] := by rw [hW0]; exact Blk.new w _ _
  have hMB : M ≠ w.heap.size := Nat.ne_of_lt h.blk.lt
  have GB := Lib.hid (show ∀ g, v.ownBlock = some g → g ≠ w.heap.size from fun g hg => Nat.ne_of_lt (own_lt h.row hg).1)
  have hBM : w.heap.size ≠ M := fun e => hMB e.symm
  have ho0 : Off (MFoot M v) w W0 := by rw [hW0]; exact (Off.refl _ w).alloc _
  have q2 := hm0.blk.cell 2
  have q3 := hm0.blk.cell 3
  have q4 := hm0.blk.cell 4
  have y4 := hm0.blk.frozen 4
  simp only [List.getElem?_cons_zero, List.getElem?_cons_succ, Bool.not_true, Option.isSome_none, Option.isSome_some] at q2 q3 q4
  obtain ⟨W, hW⟩ : ∃ W, W = W0.setCell ⟨M, 4, none⟩ (.int .i64 (k : Int)) := ⟨_, rfl⟩
  have hm : MdAt W base M (⟨room, fs, true, none⟩ : Dk) v k := by
    rw [hW]
    exact hm0.head (on := true) (arm := none) (by have := h.small; omega) (by intro j e; cases e) (grow_set (World.grownBy.refl W0 _) rfl) (hm0.blk.set 4 (.int .i64 (k : Int)))
  have bx : Blk W w.heap.size 51 [.int .i64 kind, .string nm, .string dt, .int .i64 m, .slice a kl cc] := by rw [hW]; exact bx0.other (p := ⟨M, 4, none⟩) hBM _
  have ho : Off (MFoot M v) w W := by rw [hW]; exact ho0.set (p := ⟨M, 4, none⟩) (.inr (.inl rfl)) _
  have hks : (k : Int) ≤ 9223372036854775806 := by have := h.small; omega
  have b0 := bx.cell 0
  have b1 := bx.cell 1
  have b2 := bx.cell 2
  have b3 := bx.cell 3
  simp only [List.getElem?_cons_zero, List.getElem?_cons_succ] at b0 b1 b2 b3
  have HM := Lib.hid hm
  have HO := Lib.hid ho
  have BX := Lib.hid bx
  have HGD := Lib.hid good
  have HR0 := Lib.hid (show begE (⟨room, fs, true, none⟩ : Dk) nm = (if nameOk nm = false then 1 else 0) from rfl)
  have HB0 := Lib.hid (show (begD (⟨room, fs, true, none⟩ : Dk)).2 = (⟨room, fs, true, none⟩ : Dk) from rfl)
  have hroom := good.room
  have hused := good.used
  simp only [] at hroom hused
  rw [hW0] at q2 q3 q4 y4 hW
  clear hm ho bx hm0 bx0 ho0 h good
  have HR := Lib.hid (show opD (⟨room, fs, true, none⟩ : Dk) kind nm dt m = (1, (⟨room, fs, true, none⟩ : Dk)) by
    have hE : begE (⟨room, fs, true, none⟩ : Dk) nm = 1 := by rw [HR0.out, hno]; rfl
    unfold opD appendD syncD cutD
    rw [hE, HB0.out]
    simp)
  generalize opD (⟨room, fs, true, none⟩ : Dk) kind nm dt m = R at *
  by_cases n0 : nm.size = 0
  · have e1 : decide ((nm.size : Int) < 1) = true := decide_eq_true (by omega)
    clear hno
    go_enter Try.func26, Try.ntmps26
    go_wp2
    go_ret
    try rw [← hW]
    exact ⟨by rw [HR.out]; rfl, by rw [HR.out]; exact MWent.same HM.out HO.out⟩
  · have n1 : 32 < nm.size := by
      simp [nameOk] at hno; omega
    have e1 : decide ((nm.size : Int) < 1) = false := decide_eq_false (by omega)
    have e2 : decide (32 < (nm.size : Int)) = true := decide_eq_true (by omega)
    clear hno
    go_enter Try.func26, Try.ntmps26
    go_wp2
    go_ret
    try rw [← hW]
    exact ⟨by rw [HR.out]; rfl, by rw [HR.out]; exact MWent.same HM.out HO.out⟩

set_option linter.unusedSimpArgs false in
set_option linter.unusedVariables false in
set_option maxHeartbeats 2000000 in
set_option maxRecDepth 100000 in
theorem does_n_none {w : World} {base M : Nat} {v : Value} {k : Nat} {room : Nat} {fs : List Fl} (h : MdAt w base M (⟨room, fs, true, none⟩ : Dk) v (k + 1)) (good : GoodD (⟨room, fs, true, none⟩ : Dk)) (hlen : fs.length ≤ 1000000) (hb : base ≤ w.heap.size) (kind : Int) (nm dt : ByteArray) (m : Int) (a : Option Addr) (kl cc : Nat)
    (hk : kind = 1 ∨ kind = 2) (hno : nameOk nm = true) (hat : atF fs nm = none) (hz1 : nm.size ≤ maxLen) (hz2 : dt.size ≤ maxLen) (hcm : -9223372036854775808 ≤ m ∧ m ≤ 9223372036854775807) :
    Calls Try.prog 26 #[.pointer (some ⟨M, 0, none⟩), .agg #[.int .i64 kind, .string nm, .string dt, .int .i64 m, .slice a kl cc]] w fun e w' => e = .returned (.int .i64 (opD (⟨room, fs, true, none⟩ : Dk) kind nm dt m).1) ∧ MWent w base M v (opD (⟨room, fs, true, none⟩ : Dk) kind nm dt m).2 w' := by
  unfold maxLen at hz1 hz2
  obtain ⟨W0, hW0⟩ : ∃ W0, W0 = w.alloc (.cells #[.int .i64 kind, .string nm, .string dt, .int .i64 m, .slice a kl cc] 51) := ⟨_, rfl⟩
  have hm0 : MdAt W0 base M (⟨room, fs, true, none⟩ : Dk) v (k + 1) := by rw [hW0]; exact h.below (new_below w _) (Nat.le_refl _)
  have bx0 : Blk W0 w.heap.size 51 [.int .i64 kind, .string nm, .string dt, .int .i64 m, .slice a kl cc] := by rw [hW0]; exact Blk.new w _ _
  have hMB : M ≠ w.heap.size := Nat.ne_of_lt h.blk.lt
  have GB := Lib.hid (show ∀ g, v.ownBlock = some g → g ≠ w.heap.size from fun g hg => Nat.ne_of_lt (own_lt h.row hg).1)
  have hBM : w.heap.size ≠ M := fun e => hMB e.symm
  have ho0 : Off (MFoot M v) w W0 := by rw [hW0]; exact (Off.refl _ w).alloc _
  have q2 := hm0.blk.cell 2
  have q3 := hm0.blk.cell 3
  have q4 := hm0.blk.cell 4
  have y4 := hm0.blk.frozen 4
  simp only [List.getElem?_cons_zero, List.getElem?_cons_succ, Bool.not_true, Option.isSome_none, Option.isSome_some] at q2 q3 q4
  obtain ⟨W, hW⟩ : ∃ W, W = W0.setCell ⟨M, 4, none⟩ (.int .i64 (k : Int)) := ⟨_, rfl⟩
  have hm : MdAt W base M (⟨room, fs, true, none⟩ : Dk) v k := by
    rw [hW]
    exact hm0.head (on := true) (arm := none) (by have := h.small; omega) (by intro j e; cases e) (grow_set (World.grownBy.refl W0 _) rfl) (hm0.blk.set 4 (.int .i64 (k : Int)))
  have bx : Blk W w.heap.size 51 [.int .i64 kind, .string nm, .string dt, .int .i64 m, .slice a kl cc] := by rw [hW]; exact bx0.other (p := ⟨M, 4, none⟩) hBM _
  have ho : Off (MFoot M v) w W := by rw [hW]; exact ho0.set (p := ⟨M, 4, none⟩) (.inr (.inl rfl)) _
  have hks : (k : Int) ≤ 9223372036854775806 := by have := h.small; omega
  have b0 := bx.cell 0
  have b1 := bx.cell 1
  have b2 := bx.cell 2
  have b3 := bx.cell 3
  simp only [List.getElem?_cons_zero, List.getElem?_cons_succ] at b0 b1 b2 b3
  have HM := Lib.hid hm
  have HO := Lib.hid ho
  have BX := Lib.hid bx
  have HGD := Lib.hid good
  have HR0 := Lib.hid (show begE (⟨room, fs, true, none⟩ : Dk) nm = (if nameOk nm = false then 1 else 0) from rfl)
  have HB0 := Lib.hid (show (begD (⟨room, fs, true, none⟩ : Dk)).2 = (⟨room, fs, true, none⟩ : Dk) from rfl)
  have hroom := good.room
  have hused := good.used
  simp only [] at hroom hused
  rw [hW0] at q2 q3 q4 y4 hW
  clear hm ho bx hm0 bx0 ho0 h good
  have hk0 : kind ≠ 0 := by rcases hk with rfl | rfl <;> decide
  have hkb : (kind == 0) = false := by simp [hk0]
  have n1 : 1 ≤ nm.size ∧ nm.size ≤ 32 := by simpa [nameOk] using hno
  have e1 : decide ((nm.size : Int) < 1) = false := decide_eq_false (by omega)
  have e2 : decide (32 < (nm.size : Int)) = false := decide_eq_false (by omega)
  have HE := Lib.hid (show begE (⟨room, fs, true, none⟩ : Dk) nm = 0 by rw [HR0.out, hno]; rfl)
  clear hno
  have HR := Lib.hid (show opD (⟨room, fs, true, none⟩ : Dk) kind nm dt m = (10, (⟨room, fs, true, none⟩ : Dk)) by
    unfold opD syncD cutD
    rw [if_neg hk0, HE.out]
    simp only [hat, HB0.out]
    simp)
  generalize opD (⟨room, fs, true, none⟩ : Dk) kind nm dt m = R at *
  have HFD := Lib.hid (mfind_miss HM.out nm hat)
  clear hat hk
  go_enter Try.func26, Try.ntmps26
  go_wp2_with fail
  rw [← hW]
  refine HFD.out.mono ?_
  rintro e w2 ⟨rfl, rfl⟩
  clear hW q2 q3 q4 y4 hW0
  go_wp2
  go_ret
  exact ⟨by rw [HR.out]; rfl, by rw [HR.out]; exact MWent.same HM.out HO.out⟩

set_option linter.unusedSimpArgs false in
set_option linter.unusedVariables false in
set_option maxHeartbeats 2000000 in
set_option maxRecDepth 100000 in
theorem does_n_sync {w : World} {base M : Nat} {v : Value} {k : Nat} {room : Nat} {fs : List Fl} (h : MdAt w base M (⟨room, fs, true, none⟩ : Dk) v (k + 1)) (good : GoodD (⟨room, fs, true, none⟩ : Dk)) (hlen : fs.length ≤ 1000000) (hb : base ≤ w.heap.size) (kind : Int) (nm dt : ByteArray) (m : Int) (a : Option Addr) (kl cc : Nat)
    (hk : kind = 1) (hno : nameOk nm = true) (f : Fl) (hat : atF fs nm = some f) (hz1 : nm.size ≤ maxLen) (hz2 : dt.size ≤ maxLen) (hcm : -9223372036854775808 ≤ m ∧ m ≤ 9223372036854775807) :
    Calls Try.prog 26 #[.pointer (some ⟨M, 0, none⟩), .agg #[.int .i64 kind, .string nm, .string dt, .int .i64 m, .slice a kl cc]] w fun e w' => e = .returned (.int .i64 (opD (⟨room, fs, true, none⟩ : Dk) kind nm dt m).1) ∧ MWent w base M v (opD (⟨room, fs, true, none⟩ : Dk) kind nm dt m).2 w' := by
  unfold maxLen at hz1 hz2
  obtain ⟨W0, hW0⟩ : ∃ W0, W0 = w.alloc (.cells #[.int .i64 kind, .string nm, .string dt, .int .i64 m, .slice a kl cc] 51) := ⟨_, rfl⟩
  have hm0 : MdAt W0 base M (⟨room, fs, true, none⟩ : Dk) v (k + 1) := by rw [hW0]; exact h.below (new_below w _) (Nat.le_refl _)
  have bx0 : Blk W0 w.heap.size 51 [.int .i64 kind, .string nm, .string dt, .int .i64 m, .slice a kl cc] := by rw [hW0]; exact Blk.new w _ _
  have hMB : M ≠ w.heap.size := Nat.ne_of_lt h.blk.lt
  have GB := Lib.hid (show ∀ g, v.ownBlock = some g → g ≠ w.heap.size from fun g hg => Nat.ne_of_lt (own_lt h.row hg).1)
  have hBM : w.heap.size ≠ M := fun e => hMB e.symm
  have ho0 : Off (MFoot M v) w W0 := by rw [hW0]; exact (Off.refl _ w).alloc _
  have q2 := hm0.blk.cell 2
  have q3 := hm0.blk.cell 3
  have q4 := hm0.blk.cell 4
  have y4 := hm0.blk.frozen 4
  simp only [List.getElem?_cons_zero, List.getElem?_cons_succ, Bool.not_true, Option.isSome_none, Option.isSome_some] at q2 q3 q4
  obtain ⟨W, hW⟩ : ∃ W, W = W0.setCell ⟨M, 4, none⟩ (.int .i64 (k : Int)) := ⟨_, rfl⟩
  have hm : MdAt W base M (⟨room, fs, true, none⟩ : Dk) v k := by
    rw [hW]
    exact hm0.head (on := true) (arm := none) (by have := h.small; omega) (by intro j e; cases e) (grow_set (World.grownBy.refl W0 _) rfl) (hm0.blk.set 4 (.int .i64 (k : Int)))
  have bx : Blk W w.heap.size 51 [.int .i64 kind, .string nm, .string dt, .int .i64 m, .slice a kl cc] := by rw [hW]; exact bx0.other (p := ⟨M, 4, none⟩) hBM _
  have ho : Off (MFoot M v) w W := by rw [hW]; exact ho0.set (p := ⟨M, 4, none⟩) (.inr (.inl rfl)) _
  have hks : (k : Int) ≤ 9223372036854775806 := by have := h.small; omega
  have b0 := bx.cell 0
  have b1 := bx.cell 1
  have b2 := bx.cell 2
  have b3 := bx.cell 3
  simp only [List.getElem?_cons_zero, List.getElem?_cons_succ] at b0 b1 b2 b3
  have HM := Lib.hid hm
  have HO := Lib.hid ho
  have BX := Lib.hid bx
  have HGD := Lib.hid good
  have HR0 := Lib.hid (show begE (⟨room, fs, true, none⟩ : Dk) nm = (if nameOk nm = false then 1 else 0) from rfl)
  have HB0 := Lib.hid (show (begD (⟨room, fs, true, none⟩ : Dk)).2 = (⟨room, fs, true, none⟩ : Dk) from rfl)
  have hroom := good.room
  have hused := good.used
  simp only [] at hroom hused
  rw [hW0] at q2 q3 q4 y4 hW
  clear hm ho bx hm0 bx0 ho0 h good
  subst hk
  have n1 : 1 ≤ nm.size ∧ nm.size ≤ 32 := by simpa [nameOk] using hno
  have e1 : decide ((nm.size : Int) < 1) = false := decide_eq_false (by omega)
  have e2 : decide (32 < (nm.size : Int)) = false := decide_eq_false (by omega)
  have HE := Lib.hid (show begE (⟨room, fs, true, none⟩ : Dk) nm = 0 by rw [HR0.out, hno]; rfl)
  clear hno
  have HR := Lib.hid (show opD (⟨room, fs, true, none⟩ : Dk) 1 nm dt m = (0, ⟨room, modF nm syncF fs, true, none⟩) by
    unfold opD syncD
    rw [if_neg (by decide), if_pos rfl, if_neg (by rw [HE.out]; simp), HB0.out]
    simp only [hat])
  generalize opD (⟨room, fs, true, none⟩ : Dk) 1 nm dt m = R at *
  obtain ⟨i, hi, hfi, hni⟩ := atF_at hat
  have HFD := Lib.hid (mfind_hit HM.out nm i hi hni HGD.out.sorted)
  have hil : i < fs.length := hi
  obtain ⟨p, cap, hv, _, hcap, hb1, hp, hc⟩ := HM.out.open
  obtain ⟨g, rfl⟩ := hp (by show 0 < fs.length; omega)
  obtain ⟨k0, k1, k2⟩ := hc g rfl i hi
  subst hv
  simp only [] at k0 k1 k2 hb1
  have z1 := HM.out.frozen (i * 3 + 1)
  have z2 := HM.out.frozen (i * 3 + 2)
  have hgM : g ≠ M := fun e => HM.out.ne (by rw [e]; rfl)
  have hMg : M ≠ g := fun e => hgM e.symm
  have hgB : g ≠ w.heap.size := GB.out g rfl
  have hBg : w.heap.size ≠ g := fun e => hgB e.symm
  have hdz : fs[i].data.size ≤ 4194304 := by have := data_le_used (List.getElem_mem hil); omega
  have HMS := Lib.hid (fun (h : Fl → Fl) => modF_set (h := h) HGD.out.sorted i hi hni)
  clear hp hc hni k0
  have HPT := Lib.hid (show MdAt (W.setCell ⟨g, i * 3 + 2, none⟩ (.int .i64 (fs[i].data.size : Int))) base M ⟨room, modF nm (syncF) fs, true, none⟩ (.slice (some ⟨g, 0, none⟩) fs.length cap) k by
    rw [HMS.out]
    exact HM.out.put i hi 2 (by omega) (.int .i64 (fs[i].data.size : Int)) (syncF fs[i]) rfl)
  have HPO := Lib.hid (show Off (MFoot M (.slice (some ⟨g, 0, none⟩) fs.length cap)) w (W.setCell ⟨g, i * 3 + 2, none⟩ (.int .i64 (fs[i].data.size : Int))) from HO.out.set (p := ⟨g, i * 3 + 2, none⟩) (.inr (.inr rfl)) _)
  clear hat hfi
  go_enter Try.func26, Try.ntmps26
  go_wp2_with fail
  rw [← hW]
  refine HFD.out.mono ?_
  rintro e w2 ⟨rfl, rfl⟩
  clear hW q2 q3 q4 y4 hW0
  generalize fs[i].data = fd at *
  go_wp2_with fail
  go_region
  all_goals
    go_wp2
    go_ret
    exact ⟨by rw [HR.out]; rfl, by rw [HR.out]; exact MWent.same HPT.out.drew HPO.out.drew⟩
end Go.Proofs.Ytilddhemngcieaa
