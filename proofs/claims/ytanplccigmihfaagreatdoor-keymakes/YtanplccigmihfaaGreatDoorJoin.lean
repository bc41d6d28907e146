/-
  strings.Join gives the texts one behind the other: the library's contract, laid at this translation.
-/
import Derived.Shelf.Strings.OnBuilder
import Derived.Test.YtanplccigmihfaaGreatDoorRows
import Derived.Test.YtanplccigmihfaaGreatDoorK0
namespace Go.Proofs.YtanplccigmihfaaGreatDoor
open Go.Shelf Go.RowKit Go.Pal
def joinRen : Ren := ⟨fun | 156 => 41 | 165 => 79 | 166 => 80 | 169 => 81 | 240 => 105 | 241 => 106 | 276 => 115 | 277 => 116 | n => n, fun | 0 => 0 | 3 => 3 | 4 => 4 | 5 => 5 | 9 => 9 | 20 => 20 | 31 => 39 | 37 => 46 | 70 => 115 | 72 => 117 | 75 => 120 | 76 => 121 | 80 => 26 | 127 => 135 | 164 => 153 | n => n, fun | n => n⟩
theorem joinLays : Go.Proofs.Lays.n156 Tryz.prog joinRen := {
  mixed := by kernel_rfl
  f156 := Tryz.func41.trans (congrArg some (by kernel_rfl))
  f165 := Tryz.func79.trans (congrArg some (by kernel_rfl))
  f166 := Tryz.func80.trans (congrArg some (by kernel_rfl))
  f169 := Tryz.func81.trans (congrArg some (by kernel_rfl))
  f240 := Tryz.func105.trans (congrArg some (by kernel_rfl))
  f241 := Tryz.func106.trans (congrArg some (by kernel_rfl))
  f276 := Tryz.func115.trans (congrArg some (by kernel_rfl))
  f277 := Tryz.func116.trans (congrArg some (by kernel_rfl))
  t0 := Tryz.underlying0
  a0 := Tryz.isAgg0
  z0 := Tryz.sizeOf0
  v0 := Tryz.zeroValue0
  t3 := Tryz.underlying3
  a3 := Tryz.isAgg3
  z3 := Tryz.sizeOf3
  v3 := Tryz.zeroValue3
  t4 := Tryz.underlying4
  a4 := Tryz.isAgg4
  z4 := Tryz.sizeOf4
  v4 := Tryz.zeroValue4
  t9 := Tryz.underlying9
  a9 := Tryz.isAgg9
  z9 := Tryz.sizeOf9
  v9 := Tryz.zeroValue9
  t20 := Tryz.underlying20
  a20 := Tryz.isAgg20
  z20 := Tryz.sizeOf20
  v20 := Tryz.zeroValue20
  t31 := Tryz.underlying39
  a31 := Tryz.isAgg39
  z31 := Tryz.sizeOf39
  v31 := Tryz.zeroValue39
  t37 := Tryz.underlying46
  a37 := Tryz.isAgg46
  z37 := Tryz.sizeOf46
  v37 := Tryz.zeroValue46
  t70 := Tryz.underlying115
  a70 := Tryz.isAgg115
  z70 := Tryz.sizeOf115
  v70 := Tryz.zeroValue115
  t72 := Tryz.underlying117
  a72 := Tryz.isAgg117
  z72 := Tryz.sizeOf117
  v72 := Tryz.zeroValue117
  t75 := Tryz.underlying120
  a75 := Tryz.isAgg120
  z75 := Tryz.sizeOf120
  v75 := Tryz.zeroValue120
  t76 := Tryz.underlying121
  a76 := Tryz.isAgg121
  z76 := Tryz.sizeOf121
  v76 := Tryz.zeroValue121
  t127 := Tryz.underlying135
  a127 := Tryz.isAgg135
  z127 := Tryz.sizeOf135
  v127 := Tryz.zeroValue135
  t164 := Tryz.underlying153
  a164 := Tryz.isAgg153
  z164 := Tryz.sizeOf153
  v164 := Tryz.zeroValue153 }
theorem joinX : Go.Proofs.Builder.Extra Tryz.prog joinRen := {
  sizeBuilder := by kernel_rfl
  liesBuilder := by kernel_rfl
  t5 := Tryz.underlying5
  a5 := Tryz.isAgg5
  z5 := Tryz.sizeOf5
  v5 := Tryz.zeroValue5
  infoByte := by kernel_rfl
  cellsByte := by kernel_rfl
  sizeByte := by kernel_rfl
  neB5 := by decide }
theorem join_flat : ∀ (l : List (List UInt8)), Lib.join l [] = l.flatten
  | [] => rfl
  | x :: r => by
    rw [Lib.join_cons, Lib.joinTail]; simp
theorem join_cat (l : List ByteArray) : (⟨(Lib.join (l.map (·.data.toList)) ByteArray.empty.data.toList).toArray⟩ : ByteArray) = catB l := by
  have e : ByteArray.empty.data.toList = [] := rfl
  rw [e, join_flat, catB, List.flatMap_def]
/-- strings.Join(l, ""), of texts of 32 bytes each. -/
theorem join_any (w : World) (a : Option Addr) (cap : Nat) (l : List ByteArray) (h : StrRow w a l) (hl : l.length ≤ 1000) (h32 : All32 l) (hcap : l.length ≤ cap) :
    Calls Tryz.prog 41 #[.slice a l.length cap, .string ⟨#[]⟩] w fun e w' => e = .returned (.string (catB l)) ∧ Below w.heap.size w w' := by
  rcases h with h0 | ⟨b, off, rfl, hbl, hc⟩
  · subst h0
    refine (Any.strings_Join_none joinLays joinX _ _ _ w).mono ?_
    rintro e w' ⟨rfl, h⟩
    exact ⟨rfl, by subst h; exact Below.refl _ _⟩
  · have hsz : (Lib.join (l.map (·.data.toList)) (⟨#[]⟩ : ByteArray).data.toList).length ≤ 140737488355328 := by
      have e : (⟨(Lib.join (l.map (·.data.toList)) (⟨#[]⟩ : ByteArray).data.toList).toArray⟩ : ByteArray).size = 32 * l.length := by
        have := join_cat l
        change (⟨(Lib.join (l.map (·.data.toList)) ByteArray.empty.data.toList).toArray⟩ : ByteArray).size = _
        rw [this, catB_size l h32]
      change (Lib.join _ _).toArray.size = _ at e
      rw [List.size_toArray] at e
      omega
    refine (Any.strings_Join joinLays joinX b off cap l ⟨#[]⟩ w ?_ hbl (by omega) hcap hsz).mono ?_
    · intro j x hj
      have hjl : j < l.length := (List.getElem?_eq_some_iff.1 hj).1
      have := hc j hjl
      rw [List.getD_eq_getElem?_getD, hj] at this
      exact this
    · rintro e w' ⟨rfl, hb⟩
      exact ⟨by rw [← join_cat l]; rfl, hb⟩
end Go.Proofs.YtanplccigmihfaaGreatDoor
