/-
  strings.Join gives the texts one behind the other: the library's contract, laid at this translation (for layer 6).
-/
import Derived.Shelf.Strings.OnBuilder
import Derived.Test.YtpaiccegaphjaaaDoorRows
import Derived.Test.YtpaiccegaphjaaaDoorF0
namespace Go.Proofs.YtpaiccegaphjaaaDoor.Jn
open Go.Shelf Go.RowKit Go.Pal Go.Pal.Fr
def joinRen : Ren := ⟨fun | 156 => 39 | 165 => 57 | 166 => 58 | 169 => 59 | 240 => 71 | 241 => 72 | 276 => 76 | 277 => 77 | n => n, fun | 0 => 0 | 3 => 3 | 4 => 4 | 5 => 5 | 9 => 9 | 20 => 20 | 31 => 22 | 37 => 48 | 70 => 73 | 72 => 75 | 75 => 78 | 76 => 79 | 80 => 72 | 127 => 97 | 164 => 101 | n => n, fun | n => n⟩
theorem joinLays : Go.Proofs.Lays.n156 Tryd.prog joinRen := {
  mixed := by kernel_rfl
  f156 := Tryd.func39.trans (congrArg some (by kernel_rfl))
  f165 := Tryd.func57.trans (congrArg some (by kernel_rfl))
  f166 := Tryd.func58.trans (congrArg some (by kernel_rfl))
  f169 := Tryd.func59.trans (congrArg some (by kernel_rfl))
  f240 := Tryd.func71.trans (congrArg some (by kernel_rfl))
  f241 := Tryd.func72.trans (congrArg some (by kernel_rfl))
  f276 := Tryd.func76.trans (congrArg some (by kernel_rfl))
  f277 := Tryd.func77.trans (congrArg some (by kernel_rfl))
  t0 := Tryd.underlying0
  a0 := Tryd.isAgg0
  z0 := Tryd.sizeOf0
  v0 := Tryd.zeroValue0
  t3 := Tryd.underlying3
  a3 := Tryd.isAgg3
  z3 := Tryd.sizeOf3
  v3 := Tryd.zeroValue3
  t4 := Tryd.underlying4
  a4 := Tryd.isAgg4
  z4 := Tryd.sizeOf4
  v4 := Tryd.zeroValue4
  t9 := Tryd.underlying9
  a9 := Tryd.isAgg9
  z9 := Tryd.sizeOf9
  v9 := Tryd.zeroValue9
  t20 := Tryd.underlying20
  a20 := Tryd.isAgg20
  z20 := Tryd.sizeOf20
  v20 := Tryd.zeroValue20
  t31 := Tryd.underlying22
  a31 := Tryd.isAgg22
  z31 := Tryd.sizeOf22
  v31 := Tryd.zeroValue22
  t37 := Tryd.underlying48
  a37 := Tryd.isAgg48
  z37 := Tryd.sizeOf48
  v37 := Tryd.zeroValue48
  t70 := Tryd.underlying73
  a70 := Tryd.isAgg73
  z70 := Tryd.sizeOf73
  v70 := Tryd.zeroValue73
  t72 := Tryd.underlying75
  a72 := Tryd.isAgg75
  z72 := Tryd.sizeOf75
  v72 := Tryd.zeroValue75
  t75 := Tryd.underlying78
  a75 := Tryd.isAgg78
  z75 := Tryd.sizeOf78
  v75 := Tryd.zeroValue78
  t76 := Tryd.underlying79
  a76 := Tryd.isAgg79
  z76 := Tryd.sizeOf79
  v76 := Tryd.zeroValue79
  t127 := Tryd.underlying97
  a127 := Tryd.isAgg97
  z127 := Tryd.sizeOf97
  v127 := Tryd.zeroValue97
  t164 := Tryd.underlying101
  a164 := Tryd.isAgg101
  z164 := Tryd.sizeOf101
  v164 := Tryd.zeroValue101 }
theorem joinX : Go.Proofs.Builder.Extra Tryd.prog joinRen := {
  sizeBuilder := by kernel_rfl
  liesBuilder := by kernel_rfl
  t5 := Tryd.underlying5
  a5 := Tryd.isAgg5
  z5 := Tryd.sizeOf5
  v5 := Tryd.zeroValue5
  infoByte := by kernel_rfl
  cellsByte := by kernel_rfl
  sizeByte := by kernel_rfl
  neB5 := by decide }
theorem join_flat : ∀ (l : List (List UInt8)), Lib.join l [] = l.flatten
  | [] => rfl
  | x :: r => by
    rw [Lib.join_cons, Lib.joinTail]; simp
theorem cat_data : ∀ (l : List ByteArray), (cat l).data.toList = (l.map (·.data.toList)).flatten
  | [] => rfl
  | x :: r => by
    rw [cat_cons, ByteArray.data_append]; simp [cat_data r]
theorem join_cat (l : List ByteArray) : (⟨(Lib.join (l.map (·.data.toList)) (⟨#[]⟩ : ByteArray).data.toList).toArray⟩ : ByteArray) = cat l := by
  have e : (⟨#[]⟩ : ByteArray).data.toList = [] := rfl
  rw [e, join_flat, ← cat_data]
/-- strings.Join(l, ""). -/
theorem join_any (w : World) (a : Option Addr) (cap : Nat) (l : List ByteArray) (h : StrRow w a l) (hl : l.length ≤ 1000) (hz : (cat l).size ≤ 1000000) (hcap : l.length ≤ cap) :
    Calls Tryd.prog 39 #[.slice a l.length cap, .string ⟨#[]⟩] w fun e w' => e = .returned (.string (cat l)) ∧ Below w.heap.size w w' := by
  rcases h with h0 | ⟨b, off, rfl, hbl, hc⟩
  · subst h0
    refine (Any.strings_Join_none joinLays joinX _ _ _ w).mono ?_
    rintro e w' ⟨rfl, h⟩
    exact ⟨rfl, by subst h; exact Below.refl _ _⟩
  · have hsz : (Lib.join (l.map (·.data.toList)) (⟨#[]⟩ : ByteArray).data.toList).length ≤ 140737488355328 := by
      have e : (⟨(Lib.join (l.map (·.data.toList)) (⟨#[]⟩ : ByteArray).data.toList).toArray⟩ : ByteArray).size = (cat l).size := by rw [join_cat l]
      change (Lib.join _ _).toArray.size = _ at e
      rw [List.size_toArray] at e
      omega
    refine (Any.strings_Join joinLays joinX b off cap l ⟨#[]⟩ w ?_ hbl (by omega) hcap hsz).mono ?_
    · intro j x hj
      have hjl : j < l.length := (List.getElem?_eq_some_iff.1 hj).1
      have := hc j hjl
      rw [List.getD_eq_getElem?_getD, hj] at this
      exact this
    · rintro e w' ⟨rfl, hb⟩
      exact ⟨by rw [← join_cat l], hb⟩
end Go.Proofs.YtpaiccegaphjaaaDoor.Jn
