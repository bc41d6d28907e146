/-
  Plain: where all stands in a right event's bytes. No program in sight.
-/
import Derived.Test.YtkdbbbmoalijhaaDoorE0
namespace Go.Pal.Ev
open Go.RowKit Go.Pal Go.Pal.Fr
theorem ext_mid (x y z : ByteArray) (a b : Nat) (ha : x.size = a) (hb : a + y.size = b) : (x ++ (y ++ z)).extract a b = y := by
  subst ha; subst hb
  obtain ⟨⟨l⟩⟩ := x
  obtain ⟨⟨m⟩⟩ := y
  obtain ⟨⟨n⟩⟩ := z
  rw [ByteArray.ext_iff]
  have e1 : (⟨⟨l⟩⟩ : ByteArray).size = l.length := rfl
  have e2 : (⟨⟨m⟩⟩ : ByteArray).size = m.length := rfl
  apply Array.toList_inj.1
  rw [e1, e2]
  simp [ByteArray.data_append, ByteArray.data_extract]
theorem tbz (s : ByteArray) : (tB s).size = 2 + s.size := by rw [tB, ByteArray.size_append, be_size]
theorem one_at (s : ByteArray) (i n : Nat) (h : i < s.size) (hn : n < 256) (e : s.extract i (i + 1) = be 1 n) : s[i].toNat = n := by
  have h1 : (s.extract i (i + 1)).data.toList = [UInt8.ofNat n] := by rw [e, be1]
  have h2 : (s.extract i (i + 1)).data.toList[0]? = some s[i] := by
    have h3 : i < s.data.toList.length := by simpa using h
    simp [ByteArray.data_extract, List.getElem?_drop]
    exact Array.getElem?_eq_getElem h
  rw [h1] at h2
  have h4 : UInt8.ofNat n = s[i] := by simpa using h2
  rw [← h4, UInt8.toNat_ofNat']
  omega
theorem cat_sz (l : List ByteArray) (h : ∀ i, i < l.length → (at' l i).size = 32) : (cat l).size = 32 * l.length := by
  revert h
  induction l using snoc_ind with
  | h0 => intro _; rfl
  | h1 l x ih =>
    intro h
    rw [cat_snoc, ByteArray.size_append, ih (fun i hi => by have := h i (by simp; omega); rwa [at'_snoc _ _ _ hi] at this)]
    have := h l.length (by simp)
    rw [at'_last] at this
    simp; omega
/-- The texts of 32 bytes that stand from 36 on. -/
def rPs (s : ByteArray) (k : Nat) : List ByteArray := (List.range k).map fun i => s.extract (36 + 32 * i) (36 + 32 * i + 32)
theorem rPs_succ (s : ByteArray) (k : Nat) : rPs s (k + 1) = rPs s k ++ [s.extract (36 + 32 * k) (36 + 32 * k + 32)] := by
  simp [rPs, List.range_succ]
theorem rPs_length (s : ByteArray) (k : Nat) : (rPs s k).length = k := by simp [rPs]
structure There (e : E) (s : ByteArray) : Prop where
  size : s.size = 40 + 32 * e.parents.length + e.body.size + e.sig.size
  mark : s.extract 1 3 = ⟨#[0, 32]⟩
  few : e.parents.length ≤ 8
  count : ∀ h : 35 < s.size, s[35].toNat = e.parents.length
  kind : ∀ h : 0 < s.size, (s[0].toNat : Int) = e.kind
  author : s.extract 3 35 = e.author
  parents : rPs s e.parents.length = e.parents
  blen : s.extract (36 + 32 * e.parents.length) (36 + 32 * e.parents.length + 2) = be 2 e.body.size
  body : s.extract (36 + 32 * e.parents.length + 2) (36 + 32 * e.parents.length + 2 + e.body.size) = e.body
  sig : s.extract (36 + 32 * e.parents.length + 2 + e.body.size + 2) s.size = e.sig
  bsz : e.body.size ≤ 200
theorem there (e : E) (hok : evOk e = true) : There e (evB e) := by
  obtain ⟨h1, h2, h3, h4, h5, h6⟩ := evOk_all hok
  obtain ⟨k1, k5⟩ := kind_range h1
  have hid := idsOk_at h3
  obtain ⟨k, au, l, bo, sg⟩ := e
  simp only at h1 h2 h3 h4 h5 h6 k1 k5 hid
  obtain ⟨m, rfl⟩ := Int.eq_ofNat_of_zero_le (a := k) (by omega)
  have hc := cat_sz l hid
  have e0 : evB ⟨(m : Int), au, l, bo, sg⟩ = be 1 m ++ (be 2 au.size ++ (au ++ (be 1 l.length ++ (cat l ++ (be 2 bo.size ++ (bo ++ (be 2 sg.size ++ (sg ++ ByteArray.empty)))))))) := by
    simp only [evB, evC, tB, Int.toNat_natCast, app_assoc, app_empty]
  have b1 := be_size 1 m
  have b2 := be_size 2 au.size
  have b3 := be_size 1 l.length
  have b4 := be_size 2 bo.size
  have b5 := be_size 2 sg.size
  have hau : be 2 au.size = ⟨#[0, 32]⟩ := by rw [h4]; decide
  generalize be 2 au.size = A at e0 b2 hau
  have hsz : (evB ⟨(m : Int), au, l, bo, sg⟩).size = 40 + 32 * l.length + bo.size + sg.size := by
    rw [e0]; simp only [ByteArray.size_append, b1, b2, b3, b4, b5, hc, h4]
    have : ByteArray.empty.size = 0 := rfl
    omega
  generalize evB ⟨(m : Int), au, l, bo, sg⟩ = s at *
  refine ⟨hsz, ?_, h2, fun h => ?_, fun h => ?_, ?_, ?_, ?_, ?_, ?_, h5⟩
  · rw [e0, ext_mid _ _ _ 1 3 b1 (by rw [b2]), hau]
  · refine one_at s 35 l.length h (by omega) ?_
    rw [e0, show be 1 m ++ (A ++ (au ++ (be 1 l.length ++ (cat l ++ (be 2 bo.size ++ (bo ++ (be 2 sg.size ++ (sg ++ ByteArray.empty)))))))) = (be 1 m ++ (A ++ au)) ++ (be 1 l.length ++ (cat l ++ (be 2 bo.size ++ (bo ++ (be 2 sg.size ++ (sg ++ ByteArray.empty)))))) by simp only [app_assoc]]
    exact ext_mid _ _ _ 35 36 (by simp only [ByteArray.size_append, b1, b2, h4]) (by rw [b3])
  · have := one_at s 0 m h (by omega) (by
      rw [e0]
      have := ext_mid ByteArray.empty (be 1 m) (A ++ (au ++ (be 1 l.length ++ (cat l ++ (be 2 bo.size ++ (bo ++ (be 2 sg.size ++ (sg ++ ByteArray.empty)))))))) 0 1 rfl (by rw [b1])
      rwa [empty_app] at this)
    show (s[0].toNat : Int) = (m : Int)
    omega
  · rw [e0, show be 1 m ++ (A ++ (au ++ (be 1 l.length ++ (cat l ++ (be 2 bo.size ++ (bo ++ (be 2 sg.size ++ (sg ++ ByteArray.empty)))))))) = (be 1 m ++ A) ++ (au ++ (be 1 l.length ++ (cat l ++ (be 2 bo.size ++ (bo ++ (be 2 sg.size ++ (sg ++ ByteArray.empty))))))) by simp only [app_assoc]]
    exact ext_mid _ _ _ 3 35 (by simp only [ByteArray.size_append, b1, b2]) (by rw [h4])
  · show rPs s l.length = l
    apply List.ext_getElem (by rw [rPs_length])
    intro i hi hi2
    have hx : (cat (l.take i)).size = 32 * i := by
      rw [cat_sz]
      · simp; omega
      · intro j hj
        have hj2 : j < i := by simp at hj; omega
        have := hid j (by omega)
        simpa [at', List.getD_eq_getElem?_getD, List.getElem?_take, hj2] using this
    have hl : l = l.take i ++ (l[i] :: l.drop (i + 1)) := by rw [List.getElem_cons_drop, List.take_append_drop]
    have hcl : cat l = cat (l.take i) ++ (l[i] ++ cat (l.drop (i + 1))) := by
      conv => lhs; rw [hl]
      have happ : ∀ x y : List ByteArray, cat (x ++ y) = cat x ++ cat y := fun x y => by
        induction y using snoc_ind with
        | h0 => rw [List.append_nil, cat_nil, app_empty]
        | h1 y z ih => rw [← List.append_assoc, cat_snoc, ih, cat_snoc, app_assoc]
      rw [happ, cat_cons]
    have h32 : l[i].size = 32 := by
      have := hid i hi2
      rwa [at', List.getD_eq_getElem?_getD, List.getElem?_eq_getElem hi2] at this
    have : (rPs s l.length)[i] = s.extract (36 + 32 * i) (36 + 32 * i + 32) := by simp [rPs]
    rw [this, e0, hcl, show be 1 m ++ (A ++ (au ++ (be 1 l.length ++ ((cat (l.take i) ++ (l[i] ++ cat (l.drop (i + 1)))) ++ (be 2 bo.size ++ (bo ++ (be 2 sg.size ++ (sg ++ ByteArray.empty)))))))) = (be 1 m ++ (A ++ (au ++ (be 1 l.length ++ cat (l.take i))))) ++ (l[i] ++ (cat (l.drop (i + 1)) ++ (be 2 bo.size ++ (bo ++ (be 2 sg.size ++ (sg ++ ByteArray.empty)))))) by simp only [app_assoc]]
    exact ext_mid _ _ _ _ _ (by simp only [ByteArray.size_append, b1, b2, b3, h4, hx]; omega) (by rw [h32])
  · show s.extract (36 + 32 * l.length) (36 + 32 * l.length + 2) = be 2 bo.size
    rw [e0, show be 1 m ++ (A ++ (au ++ (be 1 l.length ++ (cat l ++ (be 2 bo.size ++ (bo ++ (be 2 sg.size ++ (sg ++ ByteArray.empty)))))))) = (be 1 m ++ (A ++ (au ++ (be 1 l.length ++ cat l)))) ++ (be 2 bo.size ++ (bo ++ (be 2 sg.size ++ (sg ++ ByteArray.empty)))) by simp only [app_assoc]]
    exact ext_mid _ _ _ _ _ (by simp only [ByteArray.size_append, b1, b2, b3, h4, hc]; omega) (by rw [b4])
  · show s.extract (36 + 32 * l.length + 2) (36 + 32 * l.length + 2 + bo.size) = bo
    rw [e0, show be 1 m ++ (A ++ (au ++ (be 1 l.length ++ (cat l ++ (be 2 bo.size ++ (bo ++ (be 2 sg.size ++ (sg ++ ByteArray.empty)))))))) = (be 1 m ++ (A ++ (au ++ (be 1 l.length ++ (cat l ++ be 2 bo.size))))) ++ (bo ++ (be 2 sg.size ++ (sg ++ ByteArray.empty))) by simp only [app_assoc]]
    exact ext_mid _ _ _ _ _ (by simp only [ByteArray.size_append, b1, b2, b3, b4, h4, hc]; omega) rfl
  · show s.extract (36 + 32 * l.length + 2 + bo.size + 2) s.size = sg
    rw [hsz]
    rw [e0, show be 1 m ++ (A ++ (au ++ (be 1 l.length ++ (cat l ++ (be 2 bo.size ++ (bo ++ (be 2 sg.size ++ (sg ++ ByteArray.empty)))))))) = (be 1 m ++ (A ++ (au ++ (be 1 l.length ++ (cat l ++ (be 2 bo.size ++ (bo ++ be 2 sg.size))))))) ++ (sg ++ ByteArray.empty) by simp only [app_assoc]]
    exact ext_mid _ _ _ _ _ (by simp only [ByteArray.size_append, b1, b2, b3, b4, b5, h4, hc]; omega) (by omega)
end Go.Pal.Ev
