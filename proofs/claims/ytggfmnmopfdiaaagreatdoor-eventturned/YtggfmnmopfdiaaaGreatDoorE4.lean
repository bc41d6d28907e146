/-
  Contracts of the document's own Content and Encode of layer 6.
-/
import Derived.Test.YtggfmnmopfdiaaaGreatDoorE2
namespace Go.Pal.Fr
theorem cat_take (l : List ByteArray) (k : Nat) (h : k < l.length) : cat (l.take (k + 1)) = cat (l.take k) ++ at' l k := by
  rw [List.take_succ_eq_append_getElem h, cat_snoc]
  congr 1
  simp [at', List.getD_eq_getElem?_getD, h]
theorem cat_take_le (l : List ByteArray) (k : Nat) (hk : k ≤ l.length) (h : ∀ i, i < l.length → (at' l i).size = 32) : (cat (l.take k)).size = 32 * k := by
  rw [cat_size]
  · simp; omega
  · intro i hi
    have hi2 : i < k := by simp at hi; omega
    have := h i (by omega)
    simpa [at', List.getD_eq_getElem?_getD, List.getElem?_take, hi2] using this
end Go.Pal.Fr
namespace Go.Proofs.YtggfmnmopfdiaaaGreatDoor
open Go.RowKit Go.Pal Go.Pal.Fr Go.Pal.Ev
theorem rtextOf (s : ByteArray) (h : s.size < 65536) (w : World) :
    Calls Tryz.prog 37 #[.string s] w fun e w' => e = .returned (.tuple #[.string (tB s), .bool true]) ∧ Below w.heap.size w w' := rtext_yes s h w
theorem one_be (m : Nat) : (⟨#[UInt8.ofNat ((m : Int)).toNat]⟩ : ByteArray) = be 1 m := by rw [be1, Int.toNat_natCast]

set_option maxHeartbeats 4000000 in
theorem refcontent_any (w : World) (e : E) (a : Option Addr) (c : Nat) (h : StrRow w a e.parents) (hok : evOk (noSig e) = true) :
    Calls Tryz.prog 14 #[evV e a c] w fun r w' => r = .returned (.string (evC e)) ∧ Below w.heap.size w w' := by
  obtain ⟨kd, au, l, bo, sg⟩ := e
  obtain ⟨h1, h2, h3, h4, h5, _⟩ := evOk_all hok
  simp only [noSig] at h1 h2 h3 h4 h5
  simp only at h
  obtain ⟨k1, k5⟩ := kind_range h1
  obtain ⟨m, rfl⟩ := Int.eq_ofNat_of_zero_le (a := kd) (by omega)
  have HA := Lib.hid (fun W => rtextOf au (by omega) W)
  have HB := Lib.hid (fun W => rtextOf bo (by omega) W)
  have hC : evC ⟨(m : Int), au, l, bo, sg⟩ = be 1 m ++ tB au ++ be 1 l.length ++ cat l ++ tB bo := rfl
  rw [hC]
  unfold evV
  have z2 := tB_size au
  have z5 := tB_size bo
  have H := Lib.hid h
  have H32 := Lib.hid (idsOk_at h3)
  have wm : IntKind.u8.wrap (m : Int) = (m : Int) := by rw [IntKind.wrap_u8]; omega
  have wl : IntKind.u8.wrap (l.length : Int) = (l.length : Int) := by rw [IntKind.wrap_u8]; omega
  clear hok h1 h3 hC h
  simp only
  generalize tB au = X2 at *
  generalize tB bo = X5 at *
  have y2 : X2.size = 34 := by omega
  have y5 : X5.size ≤ 300 := by omega
  clear z2 z5
  go_enter Tryz.func14, Tryz.ntmps14
  go_wp2_with fail
  refine (HA.out _).mono ?_
  rintro r w1 ⟨rfl, q1⟩
  have Q1 := Lib.hid q1
  obtain ⟨c0, c1, c2, c3, c4⟩ := box_cells q1
  clear q1
  go_wp2_with fail
  refine (HB.out _).mono ?_
  rintro r w2 ⟨rfl, q2⟩
  have Q2 := Lib.hid (Q1.out.trans (q2.mono Q1.out.size))
  clear c0 c1 c2 c3 c4 q2
  obtain ⟨c0, c1, c2, c3, c4⟩ := box_cells Q2.out
  have hcv := conv_one
  have hlt : w.heap.size < w2.heap.size := Nat.lt_of_lt_of_le (by simp) Q2.out.size
  have c2a : ∀ o, (w2.alloc o).cell? ⟨w.heap.size, 2, none⟩ = some (.slice a l.length c) := fun o => ((alloc_below w2 o).cell (p := ⟨w.heap.size, 2, none⟩) hlt).trans c2
  have HLT := Lib.hid hlt
  clear c1 c3 c4 hlt
  go_wp2
  have HB2 := Lib.hid ((alloc_below w _).trans (Q2.out.mono (alloc_below w _).size))
  clear hcv c2a
  have C2 := Lib.hid c2
  clear c2 c0
  go_loopw [7, 8] (fun s i wr => ∃ k : Nat, k ≤ l.length ∧ i = .int .i64 k ∧ s = .string (be 1 m ++ X2 ++ be 1 l.length ++ cat (l.take k)) ∧ Below w2.heap.size w2 wr) (fun _ i _ => l.length - (intOf i).toNat)
  case atStart => exact ⟨0, by omega, rfl, by rw [List.take_zero, cat_nil, app_empty, be1, be1], ((Below.refl _ _).alloc (Nat.le_refl _) _).alloc (by simp) _⟩
  case round =>
    obtain ⟨k, hk, rfl, rfl, hb⟩ := hrel
    have c2 := (hb.cell (p := ⟨w.heap.size, 2, none⟩) HLT.out).trans C2.out
    have y4 := cat_take_le l k hk H32.out
    have y1 := be_size 1 m
    have y3 := be_size 1 l.length
    have HBB := Lib.hid hb
    by_cases hlt : k < l.length
    · obtain ⟨b1, o1, rfl, hbl⟩ := row_some H.out (by omega)
      have r1 := row_cell (H.out.below (HB2.out.trans (hb.mono HB2.out.size))) k hlt
      have HT := Lib.hid (cat_take l k hlt)
      have z := H32.out k hlt
      clear hb
      generalize be 1 m = X1 at *
      generalize be 1 l.length = X3 at *
      generalize cat (l.take k) = X4 at *
      generalize at' l k = x at *
      go_wp2
      go_roundw
      case rel => exact ⟨k + 1, by omega, by go_num, by rw [HT.out, app_assoc _ X4 x], HBB.out⟩
      case measure => simp [intOf]; omega
    · obtain rfl : k = l.length := by omega
      rw [List.take_length] at *
      clear hb
      generalize hX1 : be 1 m = X1 at *
      generalize hX3 : be 1 l.length = X3 at *
      generalize hX4 : cat l = X4 at *
      have HX1 := Lib.hid hX1
      have HX3 := Lib.hid hX3
      have HX4 := Lib.hid hX4
      clear hX1 hX3 hX4
      go_wp2
      go_ret
      exact ⟨by rw [HX1.out, HX3.out, HX4.out]; rfl, HB2.out.trans (HBB.out.mono HB2.out.size)⟩

end Go.Proofs.YtggfmnmopfdiaaaGreatDoor
