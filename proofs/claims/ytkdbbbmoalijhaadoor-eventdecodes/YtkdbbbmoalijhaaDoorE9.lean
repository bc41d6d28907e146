/-
  Plain: what is laid is decoded, what is decoded was laid.
-/
import Derived.Test.YtkdbbbmoalijhaaDoorE8
namespace Go.Pal.Ev
open Go.Pal Go.Pal.Fr Go.Proofs.YtkdbbbmoalijhaaDoor
theorem dec_sound (s : ByteArray) (h : endS (deS s).2 = true) : evB (deE s) = s := by
  obtain ⟨y, hy, hy0⟩ : ∃ y, (deS s).2 = some y ∧ y = ByteArray.empty := by
    cases hs : (deS s).2 with
    | none => rw [hs] at h; cases h
    | some y =>
      rw [hs] at h
      have : y.size = 0 := by simpa [endS] using h
      exact ⟨y, rfl, ByteArray.ext (Array.eq_empty_of_size_eq_zero this)⟩
  subst hy0
  have h1 := (textS_some (show (textS (deB s).2).2 = _ from hy)).1
  have h2 := (textS_some (show (textS (deP s).2).2 = _ from h1)).1
  have h3 := (idsS_some (deN s).1 (show (idsS (deN s).1 (deN s).2).2 = _ from h2)).1
  have h4 := (numS_some (show (numS 1 (deA s).2).2 = _ from h3)).1
  have h5 := (textS_some (show (textS (deK s).2).2 = _ from h4)).1
  have h6 := (numS_some (show (numS 1 (some s)).2 = _ from h5)).1
  have hl : (deP s).1.length = (deN s).1 := idsS_length _ _
  have h7 : s = _ := Option.some.inj h6
  have e : evB (deE s) = be 1 (deK s).1 ++ (tB (deA s).1 ++ (be 1 (deN s).1 ++ (cat (deP s).1 ++ (tB (deB s).1 ++ (tB (deS s).1 ++ ByteArray.empty))))) := by
    simp only [evB, evC, deE, hl, Int.toNat_natCast, app_assoc, app_empty]
  rw [e]
  exact h7.symm
theorem dec_there (e : E) (h : evOk e = true) : endS (deS (evB e)).2 = true ∧ deE (evB e) = e := by
  obtain ⟨h1, h2, h3, h4, h5, h6⟩ := evOk_all h
  obtain ⟨k1, k5⟩ := kind_range h1
  obtain ⟨k, au, l, bo, sg⟩ := e
  simp only at h1 h2 h3 h4 h5 h6 k1 k5
  obtain ⟨m, rfl⟩ := Int.eq_ofNat_of_zero_le (a := k) (by omega)
  have e0 : evB ⟨(m : Int), au, l, bo, sg⟩ = be 1 m ++ (tB au ++ (be 1 l.length ++ (cat l ++ (tB bo ++ (tB sg ++ ByteArray.empty))))) := by
    simp only [evB, evC, Int.toNat_natCast, app_assoc, app_empty]
  generalize evB ⟨(m : Int), au, l, bo, sg⟩ = s at *
  have a1 : deK s = (m, some (tB au ++ (be 1 l.length ++ (cat l ++ (tB bo ++ (tB sg ++ ByteArray.empty)))))) := by rw [deK, e0]; exact numS_app 1 m _ (by simp; omega)
  have a2 : deA s = (au, some (be 1 l.length ++ (cat l ++ (tB bo ++ (tB sg ++ ByteArray.empty))))) := by rw [deA, a1]; exact textS_app au _ (by omega)
  have a3 : deN s = (l.length, some (cat l ++ (tB bo ++ (tB sg ++ ByteArray.empty)))) := by rw [deN, a2]; exact numS_app 1 l.length _ (by simp; omega)
  have a4 : deP s = (l, some (tB bo ++ (tB sg ++ ByteArray.empty))) := by rw [deP, a3]; exact idsS_app l _ (idsOk_at h3)
  have a5 : deB s = (bo, some (tB sg ++ ByteArray.empty)) := by rw [deB, a4]; exact textS_app bo _ (by omega)
  have a6 : deS s = (sg, some (ByteArray.empty)) := by rw [deS, a5]; exact textS_app sg _ (by omega)
  refine ⟨by rw [a6]; rfl, ?_⟩
  rw [deE, a1, a2, a4, a5, a6]
end Go.Pal.Ev
