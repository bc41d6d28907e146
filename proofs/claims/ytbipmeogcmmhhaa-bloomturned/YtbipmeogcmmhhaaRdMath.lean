/-
  What a reader tells of bytes that were laid: plain facts.
-/
import Derived.Test.YtbipmeogcmmhhaaRd3
namespace Go.Proofs.Ytbipmeogcmmhhaa
open Go.RowKit Go.Pal

theorem ext_left (x y : ByteArray) : (x ++ y).extract 0 x.size = x := by
  rw [ByteArray.ext_iff]
  simp only [ByteArray.data_extract, ByteArray.data_append]
  rw [Array.extract_append]
  simp
theorem ext_right (x y : ByteArray) : (x ++ y).extract x.size (x ++ y).size = y := by
  obtain ⟨xa⟩ := x
  obtain ⟨ya⟩ := y
  rw [ByteArray.ext_iff]
  simp only [ByteArray.data_extract, ByteArray.data_append, ByteArray.size_append]
  have e1 : ByteArray.size ⟨xa⟩ = xa.size := rfl
  have e2 : ByteArray.size ⟨ya⟩ = ya.size := rfl
  rw [e1, e2, Array.extract_append]
  simp

theorem rd_cat {k : Int} {x : ByteArray} (y : ByteArray) (h : k = (x.size : Nat)) : rdOk k (x ++ y) false = true ∧ rdOut k (x ++ y) false = x ∧ rdRest k (x ++ y) false = y := by
  subst h
  have hk : rdOk (x.size : Nat) (x ++ y) false = true := by simp [rdOk]; omega
  refine ⟨hk, ?_, ?_⟩
  · simp only [rdOut, hk, if_true, Int.toNat_natCast]; exact ext_left x y
  · simp only [rdRest, hk, if_true, Int.toNat_natCast]; exact ext_right x y

theorem val_be (k n : Nat) (h : n < 256 ^ k) : valL (be k n).data.toList = n := by
  show valL (beL k n).toArray.toList = n
  rw [List.toList_toArray]; exact valL_beL k n h

/-- A text that was laid, with anything behind it. -/
theorem rd_text (t y : ByteArray) (h : t.size < 65536) :
    rdOk 2 (be 2 t.size ++ t ++ y) false = true ∧ rdLen (be 2 t.size ++ t ++ y) false = t.size ∧ rdRest 2 (be 2 t.size ++ t ++ y) false = t ++ y := by
  have e : be 2 t.size ++ t ++ y = be 2 t.size ++ (t ++ y) := by rw [ByteArray.append_assoc]
  rw [e]
  obtain ⟨h1, h2, h3⟩ := rd_cat (k := 2) (x := be 2 t.size) (t ++ y) (by rw [be_size]; rfl)
  refine ⟨h1, ?_, h3⟩
  rw [rdLen, h2, val_be 2 t.size (by simpa using h)]

/-- A text that was laid, cut off anywhere. -/
theorem rd_cut (t : ByteArray) (k : Nat) (h : t.size < 65536) (hk : k < t.size + 2) :
    rdOk (rdLen ((be 2 t.size ++ t).extract 0 k) false) (rdRest 2 ((be 2 t.size ++ t).extract 0 k) false) (!rdOk 2 ((be 2 t.size ++ t).extract 0 k) false) = false := by
  have hz : ((be 2 t.size ++ t).extract 0 k).size = k := by
    rw [ByteArray.size_extract, ByteArray.size_append, be_size]; omega
  by_cases h2 : k < 2
  · have hno : rdOk 2 ((be 2 t.size ++ t).extract 0 k) false = false := by simp [rdOk, hz]; omega
    rw [hno]; simp [rdOk]
  · have hb := be_size 2 t.size
    have e : (be 2 t.size ++ t).extract 0 k = be 2 t.size ++ t.extract 0 (k - 2) := by
      rw [ByteArray.ext_iff]
      simp only [ByteArray.data_extract, ByteArray.data_append]
      have hb' : (be 2 t.size).data.size = 2 := hb
      rw [Array.extract_append, hb']
      congr 1
      rw [Array.extract_eq_self_iff]
      right
      omega
    rw [e]
    obtain ⟨h1, h3, h4⟩ := rd_cat (k := 2) (x := be 2 t.size) (t.extract 0 (k - 2)) (by rw [hb]; rfl)
    rw [h1, h4, rdLen, h3, val_be 2 t.size (by simpa using h)]
    simp [rdOk]
    omega


end Go.Proofs.Ytbipmeogcmmhhaa
