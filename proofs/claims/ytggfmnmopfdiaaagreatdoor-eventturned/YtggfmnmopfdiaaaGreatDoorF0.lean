/-
  Plain mathematics for layers 6 and 7: lists of texts, what a reader takes, frames and their bytes. No program in sight.
-/
import Derived.Test.YtggfmnmopfdiaaaGreatDoorInPlain
namespace Go.Pal.Fr
open Go.RowKit Go.Pal

/-! Texts compared. -/
theorem less_trich : ∀ (x y : List UInt8), (Op.bytesLess y x || y == x) = !(Op.bytesLess x y)
  | [], [] => by simp [Op.bytesLess]
  | [], b :: y => by simp [Op.bytesLess]
  | a :: x, [] => by simp [Op.bytesLess]
  | a :: x, b :: y => by
    have ih := less_trich x y
    simp only [Op.bytesLess]
    by_cases h1 : a < b
    · have h2 : ¬ b < a := by intro h; rw [UInt8.lt_iff_toNat_lt] at h h1; omega
      have h3 : (b == a) = false := by simp; intro h; subst h; exact absurd h1 (by rw [UInt8.lt_iff_toNat_lt]; omega)
      have h4 : (b :: y == a :: x) = false := by simp at h3 ⊢; intro h; exact absurd h h3
      simp [h1, h2, h3, h4]
    · by_cases h2 : b < a
      · have h3 : (a == b) = false := by simp; intro h; subst h; exact absurd h2 (by rw [UInt8.lt_iff_toNat_lt]; omega)
        simp [h1, h2, h3]
      · have h3 : a = b := by
          apply UInt8.toNat.inj; rw [UInt8.lt_iff_toNat_lt] at h1 h2; omega
        subst h3
        have h4 : (a :: y == a :: x) = (y == x) := by simp 
        have hd : decide (a < a) = false := by simp
        rw [h4, hd]
        simpa using ih

/-! Lists of ids. -/
def at' (l : List ByteArray) (i : Nat) : ByteArray := l.getD i ByteArray.empty
/-- An id at its place: 32 bytes, and greater than the one ahead. -/
def riseAt (l : List ByteArray) (i : Nat) : Bool := decide ((at' l i).size = 32) && (decide (i = 0) || Op.bytesLess (at' l (i - 1)).toList (at' l i).toList)
def idsOk (l : List ByteArray) : Bool := (List.range l.length).all (riseAt l)
theorem idsOk_true {l : List ByteArray} (h : ∀ i, i < l.length → riseAt l i = true) : idsOk l = true := by
  simp [idsOk]; exact h
theorem idsOk_false {l : List ByteArray} {i : Nat} (hi : i < l.length) (h : riseAt l i = false) : idsOk l = false := by
  cases h1 : idsOk l
  · rfl
  · simp [idsOk] at h1
    rw [h1 i hi] at h; cases h
theorem idsOk_at {l : List ByteArray} (h : idsOk l = true) (i : Nat) (hi : i < l.length) : (at' l i).size = 32 := by
  simp [idsOk] at h
  have := h i hi
  simp [riseAt] at this
  exact this.1

/-! Lists of texts. -/
def textAt (l : List ByteArray) (i : Nat) : Bool := decide (1 ≤ (at' l i).size) && decide ((at' l i).size ≤ 65535)
def textsOk (l : List ByteArray) : Bool := (List.range l.length).all (textAt l)
theorem textsOk_true {l : List ByteArray} (h : ∀ i, i < l.length → textAt l i = true) : textsOk l = true := by
  simp [textsOk]; exact h
theorem textsOk_false {l : List ByteArray} {i : Nat} (hi : i < l.length) (h : textAt l i = false) : textsOk l = false := by
  cases h1 : textsOk l
  · rfl
  · simp [textsOk] at h1
    rw [h1 i hi] at h; cases h
theorem textsOk_at {l : List ByteArray} (h : textsOk l = true) (i : Nat) (hi : i < l.length) : 1 ≤ (at' l i).size ∧ (at' l i).size ≤ 65535 := by
  simp [textsOk] at h
  have := h i hi
  simpa [textAt] using this

/-! Bytes one behind the other. -/
def cat (l : List ByteArray) : ByteArray := l.foldl (· ++ ·) ByteArray.empty
theorem cat_nil : cat [] = ByteArray.empty := rfl
theorem cat_snoc (l : List ByteArray) (x : ByteArray) : cat (l ++ [x]) = cat l ++ x := by simp [cat, List.foldl_append]
theorem empty_app (x : ByteArray) : ByteArray.empty ++ x = x := by rw [ByteArray.ext_iff]; simp 
theorem app_empty (x : ByteArray) : x ++ ByteArray.empty = x := by rw [ByteArray.ext_iff]; simp 
theorem app_assoc (x y z : ByteArray) : x ++ y ++ z = x ++ (y ++ z) := by rw [ByteArray.ext_iff]; simp [ByteArray.data_append]
theorem foldl_app (l : List ByteArray) : ∀ x : ByteArray, l.foldl (· ++ ·) x = x ++ cat l := by
  induction l with
  | nil => intro x; simp [cat]
  | cons y r ih => intro x; simp only [cat, List.foldl_cons]; rw [ih, ih, empty_app, app_assoc]
theorem cat_cons (x : ByteArray) (l : List ByteArray) : cat (x :: l) = x ++ cat l := by
  simp only [cat, List.foldl_cons, empty_app]; exact foldl_app l x
/-- A text with its length. -/
def tB (s : ByteArray) : ByteArray := be 2 s.size ++ s

/-! What a reader takes: 'none' is a bad reader. -/
abbrev St := Option ByteArray
def takeS (n : Nat) : St → ByteArray × St
  | none => (ByteArray.empty, none)
  | some r => if n ≤ r.size then (r.extract 0 n, some (r.extract n r.size)) else (ByteArray.empty, none)
def numS (k : Nat) (st : St) : Nat × St := (valL (takeS k st).1.data.toList, (takeS k st).2)
def textS (st : St) : ByteArray × St := takeS (numS 2 st).1 (numS 2 st).2
def idsS : Nat → St → List ByteArray × St
  | 0, st => ([], st)
  | k + 1, st => ((idsS k st).1 ++ [(takeS 32 (idsS k st).2).1], (takeS 32 (idsS k st).2).2)
def textsS : Nat → St → List ByteArray × St
  | 0, st => ([], st)
  | k + 1, st => ((textsS k st).1 ++ [(textS (textsS k st).2).1], (textS (textsS k st).2).2)
theorem idsS_length (n : Nat) (st : St) : (idsS n st).1.length = n := by
  induction n with
  | zero => rfl
  | succ k ih => simp [idsS, ih]
theorem textsS_length (n : Nat) (st : St) : (textsS n st).1.length = n := by
  induction n with
  | zero => rfl
  | succ k ih => simp [textsS, ih]
theorem numS_lt (st : St) : (numS 1 st).1 < 256 := by
  have h := valL_lt (takeS 1 st).1.data.toList
  have h2 : (takeS 1 st).1.data.toList.length ≤ 1 := by
    show (takeS 1 st).1.data.toList.length ≤ 1
    have : (takeS 1 st).1.size ≤ 1 := by
      unfold takeS
      split
      · decide
      · split
        · rw [ByteArray.size_extract]; omega
        · decide
    simpa using this
  have h3 : 256 ^ (takeS 1 st).1.data.toList.length ≤ 256 ^ 1 := Nat.pow_le_pow_right (by decide) h2
  show valL (takeS 1 st).1.data.toList < 256
  omega

/-! There: what was laid is taken. -/
theorem ext_left (x y : ByteArray) : (x ++ y).extract 0 x.size = x := by
  rw [ByteArray.ext_iff]; simp [ByteArray.data_append, ByteArray.data_extract]
theorem ext_right (x y : ByteArray) : (x ++ y).extract x.size (x ++ y).size = y := by
  obtain ⟨⟨l⟩⟩ := x
  obtain ⟨⟨m⟩⟩ := y
  rw [ByteArray.ext_iff]
  have e1 : (⟨⟨l⟩⟩ : ByteArray).size = l.length := rfl
  have e2 : (⟨⟨m⟩⟩ : ByteArray).size = m.length := rfl
  rw [ByteArray.size_append, e1, e2, ByteArray.data_extract, ByteArray.data_append]
  apply Array.toList_inj.1
  simp
theorem takeS_app (x y : ByteArray) (n : Nat) (h : x.size = n) : takeS n (some (x ++ y)) = (x, some y) := by
  subst h
  have : x.size ≤ (x ++ y).size := by rw [ByteArray.size_append]; omega
  simp only [takeS, this, if_true, ext_left, ext_right]
theorem numS_app (k n : Nat) (y : ByteArray) (h : n < 256 ^ k) : numS k (some (be k n ++ y)) = (n, some y) := by
  unfold numS
  rw [takeS_app _ _ _ (be_size k n)]
  show (valL (be k n).data.toList, some y) = _
  rw [show (be k n).data.toList = beL k n from rfl, valL_beL k n h]
theorem textS_app (x y : ByteArray) (h : x.size < 65536) : textS (some (tB x ++ y)) = (x, some y) := by
  unfold textS tB
  rw [app_assoc, numS_app 2 x.size (x ++ y) (by simpa using h)]
  exact takeS_app x y _ rfl
theorem at'_snoc (l : List ByteArray) (x : ByteArray) (i : Nat) (hi : i < l.length) : at' (l ++ [x]) i = at' l i := by
  simp [at', List.getD_eq_getElem?_getD, List.getElem?_append_left hi]
theorem at'_last (l : List ByteArray) (x : ByteArray) : at' (l ++ [x]) l.length = x := by
  simp [at', List.getD_eq_getElem?_getD]
theorem snoc_ind {P : List ByteArray → Prop} (h0 : P []) (h1 : ∀ l x, P l → P (l ++ [x])) : ∀ l, P l := by
  intro l
  rw [← List.reverse_reverse l]
  induction l.reverse with
  | nil => exact h0
  | cons x r ih => rw [List.reverse_cons]; exact h1 _ _ ih
theorem idsS_app (l : List ByteArray) : ∀ y : ByteArray, (∀ i, i < l.length → (at' l i).size = 32) → idsS l.length (some (cat l ++ y)) = (l, some y) := by
  refine snoc_ind (P := fun l => ∀ y : ByteArray, (∀ i, i < l.length → (at' l i).size = 32) → idsS l.length (some (cat l ++ y)) = (l, some y)) ?_ ?_ l
  · intro y _; simp [idsS, cat_nil]
  · intro l x ih y h
    have hx : x.size = 32 := by have := h l.length (by simp); rwa [at'_last] at this
    have hl := ih (x ++ y) (fun i hi => by have := h i (by simp; omega); rwa [at'_snoc _ _ _ hi] at this)
    rw [show (l ++ [x]).length = l.length + 1 by simp, idsS, cat_snoc, app_assoc, hl, takeS_app x y 32 hx]
theorem textsS_app (l : List ByteArray) : ∀ y : ByteArray, (∀ i, i < l.length → (at' l i).size < 65536) → textsS l.length (some (cat (l.map tB) ++ y)) = (l, some y) := by
  refine snoc_ind (P := fun l => ∀ y : ByteArray, (∀ i, i < l.length → (at' l i).size < 65536) → textsS l.length (some (cat (l.map tB) ++ y)) = (l, some y)) ?_ ?_ l
  · intro y _; simp [textsS, cat_nil]
  · intro l x ih y h
    have hx : x.size < 65536 := by have := h l.length (by simp); rwa [at'_last] at this
    have hl := ih (tB x ++ y) (fun i hi => by have := h i (by simp; omega); rwa [at'_snoc _ _ _ hi] at this)
    rw [show (l ++ [x]).length = l.length + 1 by simp, textsS, List.map_append, List.map_cons, List.map_nil, cat_snoc, app_assoc, hl, textS_app x y hx]

/-! Back: what was taken was laid. -/
theorem ext_app (r : ByteArray) (n : Nat) (h : n ≤ r.size) : r.extract 0 n ++ r.extract n r.size = r := by
  rw [ByteArray.ext_iff]
  simp only [ByteArray.data_append, ByteArray.data_extract]
  rw [Array.extract_append_extract]
  have : r.data.size = r.size := rfl
  simp; omega
theorem takeS_some {n : Nat} {st : St} {y : ByteArray} (h : (takeS n st).2 = some y) : st = some ((takeS n st).1 ++ y) ∧ (takeS n st).1.size = n := by
  unfold takeS at h ⊢
  cases st with
  | none => simp at h
  | some r =>
    by_cases hn : n ≤ r.size
    · simp only [hn, if_true] at h ⊢
      have hy : r.extract n r.size = y := by simpa using h
      subst hy
      refine ⟨by rw [ext_app r n hn], by rw [ByteArray.size_extract]; omega⟩
    · simp [hn] at h
theorem beL_valL (l : List UInt8) : beL l.length (valL l) = l := by
  induction hl : l.length generalizing l with
  | zero => simp [List.eq_nil_of_length_eq_zero hl, beL]
  | succ k ih =>
    obtain ⟨l', b, rfl⟩ : ∃ l' b, l = l' ++ [b] := ⟨l.dropLast, l.getLast (by intro h; simp [h] at hl), (List.dropLast_concat_getLast _).symm⟩
    have h1 : l'.length = k := by simpa using hl
    have hb := b.toNat_lt
    rw [valL_snoc, beL, show (256 * valL l' + b.toNat) / 256 = valL l' by omega]
    have := ih l' h1
    rw [this]
    congr 2
    apply UInt8.toNat.inj
    simp
theorem numS_some {k : Nat} {st : St} {y : ByteArray} (h : (numS k st).2 = some y) : st = some (be k (numS k st).1 ++ y) ∧ (numS k st).1 < 256 ^ k := by
  obtain ⟨h1, h2⟩ := takeS_some (show (takeS k st).2 = some y from h)
  have hl : (takeS k st).1.data.toList.length = k := by simpa using h2
  refine ⟨?_, ?_⟩
  · have e : be k (numS k st).1 = (takeS k st).1 := by
      show (⟨(beL k (valL (takeS k st).1.data.toList)).toArray⟩ : ByteArray) = _
      have := beL_valL (takeS k st).1.data.toList
      rw [hl] at this
      rw [this]
    rw [e]; exact h1
  · have := valL_lt (takeS k st).1.data.toList
    rw [hl] at this
    exact this
theorem textS_some {st : St} {y : ByteArray} (h : (textS st).2 = some y) : st = some (tB (textS st).1 ++ y) ∧ (textS st).1.size < 65536 := by
  obtain ⟨h1, h2⟩ := takeS_some (show (takeS (numS 2 st).1 (numS 2 st).2).2 = some y from h)
  obtain ⟨h3, h4⟩ := numS_some h1
  have e : (textS st).1 = (takeS (numS 2 st).1 (numS 2 st).2).1 := rfl
  have h4' : (numS 2 st).1 < 65536 := by simpa using h4
  refine ⟨?_, by rw [e, h2]; exact h4'⟩
  rw [e, tB, h2, app_assoc]; exact h3
theorem idsS_some (n : Nat) {st : St} : ∀ {y : ByteArray}, (idsS n st).2 = some y → st = some (cat (idsS n st).1 ++ y) ∧ ∀ i, i < n → (at' (idsS n st).1 i).size = 32 := by
  induction n with
  | zero => intro y h; simp [idsS] at h ⊢; rw [h, cat_nil, empty_app]
  | succ k ih =>
    intro y h
    obtain ⟨h1, h2⟩ := takeS_some (show (takeS 32 (idsS k st).2).2 = some y from h)
    obtain ⟨h3, h4⟩ := ih h1
    refine ⟨?_, fun i hi => ?_⟩
    · rw [idsS, cat_snoc, app_assoc]; exact h3
    · rw [idsS]
      by_cases hk : i < k
      · rw [at'_snoc _ _ _ (by rw [idsS_length]; exact hk)]; exact h4 i hk
      · have : i = (idsS k st).1.length := by rw [idsS_length]; omega
        subst this
        rw [at'_last]; exact h2
theorem textsS_some (n : Nat) {st : St} : ∀ {y : ByteArray}, (textsS n st).2 = some y → st = some (cat ((textsS n st).1.map tB) ++ y) ∧ ∀ i, i < n → (at' (textsS n st).1 i).size < 65536 := by
  induction n with
  | zero => intro y h; simp [textsS] at h ⊢; rw [h, cat_nil, empty_app]
  | succ k ih =>
    intro y h
    obtain ⟨h1, h2⟩ := textS_some (show (textS (textsS k st).2).2 = some y from h)
    obtain ⟨h3, h4⟩ := ih h1
    refine ⟨?_, fun i hi => ?_⟩
    · rw [textsS, List.map_append, List.map_cons, List.map_nil, cat_snoc, app_assoc]; exact h3
    · rw [textsS]
      by_cases hk : i < k
      · rw [at'_snoc _ _ _ (by rw [textsS_length]; exact hk)]; exact h4 i hk
      · have : i = (textsS k st).1.length := by rw [textsS_length]; omega
        subst this
        rw [at'_last]; exact h2

end Go.Pal.Fr
