/-
  strings.Join gives the texts one behind the other: the library's contract, laid at this translation (for layer 6).
-/
import Derived.Shelf.Strings.OnBuilder
import Derived.Test.YtggfmnmopfdiaaaGreatDoorRows
import Derived.Test.YtggfmnmopfdiaaaGreatDoorF0
namespace Go.Proofs.YtggfmnmopfdiaaaGreatDoor.Jn
open Go.Shelf Go.RowKit Go.Pal Go.Pal.Fr
def joinRen : Ren := ⟨fun | 156 => 58 | 165 => 93 | 166 => 94 | 169 => 95 | 240 => 117 | 241 => 118 | 276 => 127 | 277 => 128 | n => n, fun | 0 => 0 | 3 => 3 | 4 => 4 | 5 => 5 | 9 => 9 | 20 => 20 | 31 => 22 | 37 => 79 | 70 => 126 | 72 => 128 | 75 => 131 | 76 => 132 | 80 => 66 | 127 => 116 | 164 => 164 | n => n, fun | n => n⟩
theorem joinLays : Go.Proofs.Lays.n156 Tryz.prog joinRen := {
  mixed := by kernel_rfl
  f156 := Tryz.func58.trans (congrArg some (by kernel_rfl))
  f165 := Tryz.func93.trans (congrArg some (by kernel_rfl))
  f166 := Tryz.func94.trans (congrArg some (by kernel_rfl))
  f169 := Tryz.func95.trans (congrArg some (by kernel_rfl))
  f240 := Tryz.func117.trans (congrArg some (by kernel_rfl))
  f241 := Tryz.func118.trans (congrArg some (by kernel_rfl))
  f276 := Tryz.func127.trans (congrArg some (by kernel_rfl))
  f277 := Tryz.func128.trans (congrArg some (by kernel_rfl))
  t0 := Tryz.underlying0
  a0 := Tryz.isAgg0
  z0 := Tryz.sizeOf0
  v0 := Tryz.zeroValue0
  t3 := Tryz.underlying3
  a3 := Tryz.isAgg3
  z3 := Tryz.sizeOf3
  v3 := Tryz.zeroValue3
  t4 := Tryz.underlying4
  a4 := Tryz.isAgg4
  z4 := Tryz.sizeOf4
  v4 := Tryz.zeroValue4
  t9 := Tryz.underlying9
  a9 := Tryz.isAgg9
  z9 := Tryz.sizeOf9
  v9 := Tryz.zeroValue9
  t20 := Tryz.underlying20
  a20 := Tryz.isAgg20
  z20 := Tryz.sizeOf20
  v20 := Tryz.zeroValue20
  t31 := Tryz.underlying22
  a31 := Tryz.isAgg22
  z31 := Tryz.sizeOf22
  v31 := Tryz.zeroValue22
  t37 := Tryz.underlying79
  a37 := Tryz.isAgg79
  z37 := Tryz.sizeOf79
  v37 := Tryz.zeroValue79
  t70 := Tryz.underlying126
  a70 := Tryz.isAgg126
  z70 := Tryz.sizeOf126
  v70 := Tryz.zeroValue126
  t72 := Tryz.underlying128
  a72 := Tryz.isAgg128
  z72 := Tryz.sizeOf128
  v72 := Tryz.zeroValue128
  t75 := Tryz.underlying131
  a75 := Tryz.isAgg131
  z75 := Tryz.sizeOf131
  v75 := Tryz.zeroValue131
  t76 := Tryz.underlying132
  a76 := Tryz.isAgg132
  z76 := Tryz.sizeOf132
  v76 := Tryz.zeroValue132
  t127 := Tryz.underlying116
  a127 := Tryz.isAgg116
  z127 := Tryz.sizeOf116
  v127 := Tryz.zeroValue116
  t164 := Tryz.underlying164
  a164 := Tryz.isAgg164
  z164 := Tryz.sizeOf164
  v164 := Tryz.zeroValue164 }
theorem joinX : Go.Proofs.Builder.Extra Tryz.prog joinRen := {
  sizeBuilder := by kernel_rfl
  liesBuilder := by kernel_rfl
  t5 := Tryz.underlying5
  a5 := Tryz.isAgg5
  z5 := Tryz.sizeOf5
  v5 := Tryz.zeroValue5
  infoByte := by kernel_rfl
  cellsByte := by kernel_rfl
  sizeByte := by kernel_rfl
  neB5 := by decide }
theorem join_flat : ∀ (l : List (List UInt8)), Lib.join l [] = l.flatten
  | [] => rfl
  | x :: r => by
    rw [Lib.join_cons, Lib.joinTail]; simp
theorem cat_data : ∀ (l : List ByteArray), (cat l).data.toList = (l.map (·.data.toList)).flatten
  | [] => rfl
  | x :: r => by
    rw [cat_cons, ByteArray.data_append]; simp [cat_data r]
theorem join_cat (l : List ByteArray) : (⟨(Lib.join (l.map (·.data.toList)) (⟨#[]⟩ : ByteArray).data.toList).toArray⟩ : ByteArray) = cat l := by
  have e : (⟨#[]⟩ : ByteArray).data.toList = [] := rfl
  rw [e, join_flat, ← cat_data]
/-- strings.Join(l, ""). -/
theorem join_any (w : World) (a : Option Addr) (cap : Nat) (l : List ByteArray) (h : StrRow w a l) (hl : l.length ≤ 1000) (hz : (cat l).size ≤ 1000000) (hcap : l.length ≤ cap) :
    Calls Tryz.prog 58 #[.slice a l.length cap, .string ⟨#[]⟩] w fun e w' => e = .returned (.string (cat l)) ∧ Below w.heap.size w w' := by
  rcases h with h0 | ⟨b, off, rfl, hbl, hc⟩
  · subst h0
    refine (Any.strings_Join_none joinLays joinX _ _ _ w).mono ?_
    rintro e w' ⟨rfl, h⟩
    exact ⟨rfl, by subst h; exact Below.refl _ _⟩
  · have hsz : (Lib.join (l.map (·.data.toList)) (⟨#[]⟩ : ByteArray).data.toList).length ≤ 140737488355328 := by
      have e : (⟨(Lib.join (l.map (·.data.toList)) (⟨#[]⟩ : ByteArray).data.toList).toArray⟩ : ByteArray).size = (cat l).size := by rw [join_cat l]
      change (Lib.join _ _).toArray.size = _ at e
      rw [List.size_toArray] at e
      omega
    refine (Any.strings_Join joinLays joinX b off cap l ⟨#[]⟩ w ?_ hbl (by omega) hcap hsz).mono ?_
    · intro j x hj
      have hjl : j < l.length := (List.getElem?_eq_some_iff.1 hj).1
      have := hc j hjl
      rw [List.getD_eq_getElem?_getD, hj] at this
      exact this
    · rintro e w' ⟨rfl, hb⟩
      exact ⟨by rw [← join_cat l], hb⟩
end Go.Proofs.YtggfmnmopfdiaaaGreatDoor.Jn
