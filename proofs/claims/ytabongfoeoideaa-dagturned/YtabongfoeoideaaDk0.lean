/-
  Plain mathematics for layer 9: a disk of files, as the document has it. No program in sight.
-/
import Derived.Test.YtabongfoeoideaaPlain
namespace Go.Pal.Dk
open Go.Pal

/-- A file: its name, its bytes, and how many of them are safe. -/
structure Fl where
  name : ByteArray
  data : ByteArray
  safe : Nat
/-- A disk: its room, its files by their names, whether it is on, and how many operations more it does, if it is armed. -/
structure Dk where
  room : Nat
  files : List Fl
  on : Bool
  arm : Option Nat
def ltB (a b : ByteArray) : Prop := a.data.toList < b.data.toList
theorem ltB_irrefl (a : ByteArray) : ¬ ltB a a := List.lt_irrefl _
theorem ltB_trans {a b c : ByteArray} (h1 : ltB a b) (h2 : ltB b c) : ltB a c := List.lt_trans h1 h2
theorem ltB_asymm {a b : ByteArray} (h1 : ltB a b) (h2 : ltB b a) : False := ltB_irrefl a (ltB_trans h1 h2)
theorem data_inj {a b : ByteArray} (h : a.data.toList = b.data.toList) : a = b := by
  rw [ByteArray.ext_iff]; exact Array.toList_inj.1 h
theorem ltB_or {a b : ByteArray} (hne : a ≠ b) (h : ¬ ltB a b) : ltB b a := by
  refine Classical.byContradiction fun h2 => hne (data_inj (List.le_antisymm (List.not_lt.1 h2) (List.not_lt.1 h)))
def SortedF (l : List Fl) : Prop := l.Pairwise fun f g => ltB f.name g.name
def usedF (l : List Fl) : Nat := (l.map fun f => f.data.size).sum
def atF (l : List Fl) (n : ByteArray) : Option Fl := l.find? fun f => decide (f.name = n)
def modF (n : ByteArray) (h : Fl → Fl) (l : List Fl) : List Fl := l.map fun f => if f.name = n then h f else f
def insF (x : Fl) : List Fl → List Fl
  | [] => [x]
  | f :: r => if f.name.data.toList < x.name.data.toList then f :: insF x r else x :: f :: r

theorem atF_some {l : List Fl} {n : ByteArray} {f : Fl} (h : atF l n = some f) : f ∈ l ∧ f.name = n := by
  have h1 := List.find?_some h
  exact ⟨List.mem_of_find?_eq_some h, by simpa using h1⟩
theorem atF_none {l : List Fl} {n : ByteArray} (h : atF l n = none) : ∀ f ∈ l, f.name ≠ n := by
  intro f hf
  have := List.find?_eq_none.1 h f hf
  simpa using this
theorem sorted_inj {l : List Fl} (h : SortedF l) : ∀ f ∈ l, ∀ g ∈ l, f.name = g.name → f = g := by
  induction l with
  | nil => intro f hf; cases hf
  | cons a r ih =>
    obtain ⟨h1, h2⟩ := List.pairwise_cons.1 h
    intro f hf g hg e
    rcases List.mem_cons.1 hf with rfl | hf' <;> rcases List.mem_cons.1 hg with rfl | hg'
    · rfl
    · exact absurd (h1 g hg') (by rw [e]; exact ltB_irrefl _)
    · exact absurd (h1 f hf') (by rw [← e]; exact ltB_irrefl _)
    · exact ih h2 f hf' g hg' e
theorem atF_mem {l : List Fl} (h : SortedF l) {f : Fl} (hf : f ∈ l) : atF l f.name = some f := by
  cases ha : atF l f.name with
  | none => exact absurd rfl (atF_none ha f hf)
  | some g =>
    obtain ⟨hg, hn⟩ := atF_some ha
    rw [sorted_inj h g hg f hf hn]

/-! What is laid in. -/
theorem mem_insF (x : Fl) (l : List Fl) (f : Fl) : f ∈ insF x l ↔ f = x ∨ f ∈ l := by
  induction l with
  | nil => simp [insF]
  | cons a r ih =>
    unfold insF
    split
    · simp only [List.mem_cons, ih]; constructor
      · rintro (h | h | h) <;> simp [h]
      · rintro (h | h | h) <;> simp [h]
    · simp
theorem sorted_insF {x : Fl} {l : List Fl} (h : SortedF l) (hn : ∀ f ∈ l, f.name ≠ x.name) : SortedF (insF x l) := by
  induction l with
  | nil => simp [insF, SortedF]
  | cons a r ih =>
    obtain ⟨h1, h2⟩ := List.pairwise_cons.1 h
    unfold insF
    split
    · rename_i hlt
      refine List.pairwise_cons.2 ⟨fun f hf => ?_, ih h2 (fun f hf => hn f (List.mem_cons_of_mem _ hf))⟩
      rcases (mem_insF x r f).1 hf with rfl | hf'
      · exact hlt
      · exact h1 f hf'
    · rename_i hlt
      have ha : ltB x.name a.name := ltB_or (fun e => hn a List.mem_cons_self e) hlt
      refine List.pairwise_cons.2 ⟨fun f hf => ?_, h⟩
      rcases List.mem_cons.1 hf with rfl | hf'
      · exact ha
      · exact ltB_trans ha (h1 f hf')
theorem used_insF (x : Fl) (l : List Fl) : usedF (insF x l) = x.data.size + usedF l := by
  induction l with
  | nil => simp [insF, usedF]
  | cons a r ih =>
    unfold insF
    split
    · simp only [usedF, List.map_cons, List.sum_cons] at ih ⊢; omega
    · simp [usedF]
theorem length_insF (x : Fl) (l : List Fl) : (insF x l).length = l.length + 1 := by
  induction l with
  | nil => rfl
  | cons a r ih => unfold insF; split <;> simp [ih]

/-! What is turned. -/
theorem mem_modF {n : ByteArray} {h : Fl → Fl} {l : List Fl} {f : Fl} (hf : f ∈ modF n h l) : (f ∈ l ∧ f.name ≠ n) ∨ ∃ g ∈ l, g.name = n ∧ f = h g := by
  obtain ⟨g, hg, e⟩ := List.mem_map.1 hf
  by_cases hn : g.name = n
  · rw [if_pos hn] at e; exact .inr ⟨g, hg, hn, e.symm⟩
  · rw [if_neg hn] at e; subst e; exact .inl ⟨hg, hn⟩
theorem names_modF {n : ByteArray} {h : Fl → Fl} (hh : ∀ f, (h f).name = f.name) (l : List Fl) : (modF n h l).map Fl.name = l.map Fl.name := by
  unfold modF
  rw [List.map_map]
  apply List.map_congr_left
  intro f _
  show (if f.name = n then h f else f).name = f.name
  split
  · exact hh f
  · rfl
theorem sorted_names {l m : List Fl} (h : l.map Fl.name = m.map Fl.name) (hs : SortedF l) : SortedF m := by
  have h1 : (l.map Fl.name).Pairwise ltB := List.pairwise_map.2 hs
  rw [h] at h1
  exact List.pairwise_map.1 h1
theorem modF_same {n : ByteArray} {h : Fl → Fl} {l : List Fl} (hn : ∀ f ∈ l, f.name ≠ n) : modF n h l = l := by
  unfold modF
  conv => rhs; rw [← List.map_id l]
  apply List.map_congr_left
  intro f hf
  simp [hn f hf]
theorem used_modF {n : ByteArray} {h : Fl → Fl} {l : List Fl} (hs : SortedF l) {f : Fl} (hf : atF l n = some f) : usedF (modF n h l) + f.data.size = usedF l + (h f).data.size := by
  induction l with
  | nil => simp [atF] at hf
  | cons a r ih =>
    obtain ⟨h1, h2⟩ := List.pairwise_cons.1 hs
    by_cases ha : a.name = n
    · have e : f = a := by simpa [atF, ha] using hf.symm
      subst e
      have hr : modF n h r = r := modF_same (fun g hg e => by have := h1 g hg; rw [ha, e] at this; exact ltB_irrefl _ this)
      have : modF n h (f :: r) = h f :: r := by
        show (if f.name = n then h f else f) :: modF n h r = _
        rw [if_pos ha, hr]
      rw [this]
      simp only [usedF, List.map_cons, List.sum_cons]
      omega
    · have hf' : atF r n = some f := by simpa [atF, ha] using hf
      have := ih h2 hf'
      have e : modF n h (a :: r) = a :: modF n h r := by
        show (if a.name = n then h a else a) :: modF n h r = _
        rw [if_neg ha]
      rw [e]
      simp only [usedF, List.map_cons, List.sum_cons] at this ⊢
      omega
theorem data_le_used {l : List Fl} {f : Fl} (hf : f ∈ l) : f.data.size ≤ usedF l := by
  induction l with
  | nil => cases hf
  | cons a r ih =>
    simp only [usedF, List.map_cons, List.sum_cons]
    rcases List.mem_cons.1 hf with rfl | h
    · omega
    · have := ih h; simp only [usedF] at this; omega

/-! The operations. -/
def nameOk (n : ByteArray) : Bool := decide (1 ≤ n.size) && decide (n.size ≤ 32)
/-- Whether an operation is done, and the disk behind that. -/
def begD (d : Dk) : Bool × Dk :=
  if d.on = false then (false, d)
  else match d.arm with
    | none => (true, d)
    | some 0 => (false, { d with on := false })
    | some (k + 1) => (true, { d with arm := some k })
def begE (d : Dk) (n : ByteArray) : Int := if (begD d).1 = false then 6 else if nameOk n = false then 1 else 0
def more (s : ByteArray) (f : Fl) : Fl := { f with data := f.data ++ s }
def syncF (f : Fl) : Fl := { f with safe := f.data.size }
def cutF (k : Nat) (f : Fl) : Fl := { f with data := f.data.extract 0 k, safe := k }
def putF (n s : ByteArray) (l : List Fl) : List Fl := match atF l n with
  | some _ => modF n (more s) l
  | none => insF ⟨n, s, 0⟩ l
def appendD (d : Dk) (n s : ByteArray) : Int × Dk :=
  if begE d n ≠ 0 then (begE d n, (begD d).2)
  else if d.room - usedF d.files < s.size then (6, (begD d).2)
  else (0, { (begD d).2 with files := putF n s d.files })
def syncD (d : Dk) (n : ByteArray) : Int × Dk :=
  if begE d n ≠ 0 then (begE d n, (begD d).2)
  else match atF d.files n with
    | none => (10, (begD d).2)
    | some _ => (0, { (begD d).2 with files := modF n syncF d.files })
def cutD (d : Dk) (n : ByteArray) (k : Int) : Int × Dk :=
  if begE d n ≠ 0 then (begE d n, (begD d).2)
  else match atF d.files n with
    | none => (10, (begD d).2)
    | some f => if k < 0 ∨ (f.data.size : Int) < k then (1, (begD d).2) else (0, { (begD d).2 with files := modF n (cutF k.toNat) d.files })
def readD (d : Dk) (n : ByteArray) : ByteArray × Int :=
  if d.on = false then (ByteArray.empty, 6)
  else match atF d.files n with
    | none => (ByteArray.empty, 10)
    | some f => (f.data, 0)
def armD (d : Dk) (k : Int) : Dk := { d with arm := some k.toNat }
/-- How many bytes a crash leaves a file. -/
def keptF (keep : List Int) (i : Nat) (f : Fl) : Nat := f.safe + min (keep.getD i 0).toNat (f.data.size - f.safe)
def crashF (keep : List Int) (i : Nat) : List Fl → List Fl
  | [] => []
  | f :: r => cutF (keptF keep i f) f :: crashF keep (i + 1) r
def crashD (d : Dk) (keep : List Int) : Dk := ⟨d.room, crashF keep 0 d.files, true, none⟩

theorem begD_files (d : Dk) : (begD d).2.files = d.files ∧ (begD d).2.room = d.room := by
  unfold begD
  split
  · exact ⟨rfl, rfl⟩
  · split <;> exact ⟨rfl, rfl⟩
/-- Whatever a disk may be asked of. -/
structure GoodD (d : Dk) : Prop where
  room : d.room ≤ 4194304
  used : usedF d.files ≤ d.room
  sorted : SortedF d.files
  safe : ∀ f ∈ d.files, f.safe ≤ f.data.size
  names : ∀ f ∈ d.files, f.name.size ≤ 32
  arm : d.arm.getD 0 ≤ 9223372036854775807
end Go.Pal.Dk
