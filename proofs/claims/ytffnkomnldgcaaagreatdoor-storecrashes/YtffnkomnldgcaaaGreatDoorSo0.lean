/-
  Plain mathematics for layer 11: a store's state, records, and what an act lays.
-/
import Derived.Test.YtffnkomnldgcaaaGreatDoorLg0
namespace Go.Proofs.YtffnkomnldgcaaaGreatDoor
open Go.RowKit Go.Pal Go.Pal.Dk Go.Pal.Fr Go.Pal.Cr

/-- What is known. -/
structure SS where
  room : ByteArray
  events : List ByteArray
  used : Nat
  queue : List ByteArray
def ss0 : SS := ⟨ByteArray.empty, [], 0, []⟩
def restB (r : ByteArray) : ByteArray := r.extract 1 r.size
/-- The letter that a record begins with. -/
def letN (r : ByteArray) : Nat := (r.data.toList.getD 0 0).toNat
/-- The state behind one record more. -/
def takeR (s : SS) (r : ByteArray) : Option SS :=
  if r.size = 0 then none
  else if letN r = 82 then (if (restB r).size = 32 then some { s with room := restB r } else none)
  else if letN r = 69 then some { s with events := s.events ++ [restB r] }
  else if letN r = 75 then (if (restB r).size = 2 then some { s with used := max s.used (valL (restB r).data.toList) } else none)
  else if letN r = 81 then some { s with queue := s.queue ++ [restB r] }
  else if letN r = 68 then (if (restB r).size = 0 ∧ s.queue ≠ [] then some { s with queue := s.queue.tail } else none)
  else none
def ofR (s : SS) : List ByteArray → Option SS
  | [] => some s
  | r :: l => match takeR s r with
    | none => none
    | some t => ofR t l
theorem ofR_snoc (r : ByteArray) : ∀ (l : List ByteArray) (s : SS), ofR s (l ++ [r]) = match ofR s l with | none => none | some t => takeR t r
  | [], s => by
    show (match takeR s r with | none => none | some t => ofR t []) = takeR s r
    cases takeR s r <;> rfl
  | x :: l, s => by
    show (match takeR s x with | none => none | some t => ofR t (l ++ [r])) = match (match takeR s x with | none => none | some t => ofR t l) with | none => none | some t => takeR t r
    cases takeR s x with
    | none => rfl
    | some t => exact ofR_snoc r l t
theorem ofR_take (l : List ByteArray) (s : SS) (k : Nat) (hk : k < l.length) : ofR s (l.take (k + 1)) = match ofR s (l.take k) with | none => none | some t => takeR t l[k] := by
  rw [List.take_succ_eq_append_getElem hk, ofR_snoc]
theorem ofR_app (l m : List ByteArray) : ∀ s : SS, ofR s (l ++ m) = match ofR s l with | none => none | some t => ofR t m := by
  induction l with
  | nil => intro s; rfl
  | cons x l ih =>
    intro s
    show (match takeR s x with | none => none | some t => ofR t (l ++ m)) = match (match takeR s x with | none => none | some t => ofR t l) with | none => none | some t => ofR t m
    cases takeR s x with
    | none => rfl
    | some t => exact ih t
theorem ofR_none_take {l : List ByteArray} {s : SS} {k : Nat} (h : ofR s (l.take k) = none) : ofR s l = none := by
  have := ofR_app (l.take k) (l.drop k) s
  rw [List.take_append_drop, h] at this
  exact this
/-- What an act answers, ahead of the log: its error, and its record. -/
def oneB (c : UInt8) : ByteArray := ⟨#[c]⟩
def doesR (s : SS) (kind : Int) (t : ByteArray) (n : Int) : Int × ByteArray :=
  if kind = 0 then (if t.size ≠ 32 then (1, ByteArray.empty) else if s.room.size ≠ 0 then (11, ByteArray.empty) else (0, oneB 82 ++ t))
  else if kind = 1 then (if 65534 < t.size then (3, ByteArray.empty) else (0, oneB 69 ++ t))
  else if kind = 2 then (if n ≤ s.used ∨ 65535 < n then (1, ByteArray.empty) else (0, oneB 75 ++ be 2 n.toNat))
  else if kind = 3 then (if 200 < t.size then (3, ByteArray.empty) else if 4 ≤ s.queue.length then (8, ByteArray.empty) else (0, oneB 81 ++ t))
  else (if s.queue.length = 0 then (10, ByteArray.empty) else (0, oneB 68 ++ ByteArray.empty))
theorem one_rest (c : UInt8) (t : ByteArray) : restB (oneB c ++ t) = t ∧ letN (oneB c ++ t) = c.toNat ∧ (oneB c ++ t).size = 1 + t.size := by
  refine ⟨?_, ?_, ?_⟩
  · have := ext_right (oneB c) t
    exact this
  · simp [letN, oneB, ByteArray.data_append]
  · rw [ByteArray.size_append]; rfl
/-- What an act lays can be taken, and is short enough. -/
def afterR (s : SS) (kind : Int) (t : ByteArray) (n : Int) : SS :=
  if kind = 0 then { s with room := t }
  else if kind = 1 then { s with events := s.events ++ [t] }
  else if kind = 2 then { s with used := n.toNat }
  else if kind = 3 then { s with queue := s.queue ++ [t] }
  else { s with queue := s.queue.tail }
theorem be2_val (n : Nat) (h : n < 65536) : valL (be 2 n).data.toList = n ∧ (be 2 n).size = 2 := by
  refine ⟨?_, be_size 2 n⟩
  have := numS_app 2 n ByteArray.empty (by simpa using h)
  rw [app_empty] at this
  have h2 := congrArg Prod.fst this
  simp only [numS, takeS] at h2
  have e : (be 2 n).extract 0 2 = be 2 n := by
    have := be_size 2 n
    conv => lhs; rw [← this]
    exact ByteArray.extract_zero_size
  simpa [be_size, e] using h2
theorem does_take (s : SS) (kind : Int) (t : ByteArray) (n : Int) (h : (doesR s kind t n).1 = 0) : takeR s (doesR s kind t n).2 = some (afterR s kind t n) := by
  unfold doesR at h ⊢
  unfold afterR
  by_cases h0 : kind = 0
  · simp only [if_pos h0] at h ⊢
    by_cases h1 : t.size ≠ 32
    · rw [if_pos h1] at h; exact absurd h (by decide)
    · simp only [if_neg h1] at h ⊢
      by_cases h2 : s.room.size ≠ 0
      · rw [if_pos h2] at h; exact absurd h (by decide)
      · simp only [if_neg h2]
        obtain ⟨a, b, c⟩ := one_rest 82 t
        have b : letN (oneB 82 ++ t) = 82 := b
        unfold takeR
        rw [if_neg (by omega), if_pos b, a, if_pos (by omega)]
  · simp only [if_neg h0] at h ⊢
    by_cases h1 : kind = 1
    · simp only [if_pos h1] at h ⊢
      by_cases h2 : 65534 < t.size
      · rw [if_pos h2] at h; exact absurd h (by decide)
      · simp only [if_neg h2]
        obtain ⟨a, b, c⟩ := one_rest 69 t
        have b : letN (oneB 69 ++ t) = 69 := b
        unfold takeR
        rw [if_neg (by omega), if_neg (by rw [b]; decide), if_pos b, a]
    · simp only [if_neg h1] at h ⊢
      by_cases h2 : kind = 2
      · simp only [if_pos h2] at h ⊢
        by_cases h3 : n ≤ s.used ∨ 65535 < n
        · rw [if_pos h3] at h; exact absurd h (by decide)
        · simp only [if_neg h3]
          obtain ⟨a, b, c⟩ := one_rest 75 (be 2 n.toNat)
          have b : letN (oneB 75 ++ (be 2 n.toNat)) = 75 := b
          obtain ⟨d, e⟩ := be2_val n.toNat (by omega)
          unfold takeR
          rw [if_neg (by omega), if_neg (by rw [b]; decide), if_neg (by rw [b]; decide), if_pos b, a, if_pos e, d]
          have : max s.used n.toNat = n.toNat := by omega
          rw [this]
      · simp only [if_neg h2] at h ⊢
        by_cases h3 : kind = 3
        · simp only [if_pos h3] at h ⊢
          by_cases h4 : 200 < t.size
          · rw [if_pos h4] at h; exact absurd h (by decide)
          · simp only [if_neg h4] at h ⊢
            by_cases h5 : 4 ≤ s.queue.length
            · rw [if_pos h5] at h; exact absurd h (by decide)
            · simp only [if_neg h5]
              obtain ⟨a, b, c⟩ := one_rest 81 t
              have b : letN (oneB 81 ++ t) = 81 := b
              unfold takeR
              rw [if_neg (by omega), if_neg (by rw [b]; decide), if_neg (by rw [b]; decide), if_neg (by rw [b]; decide), if_pos b, a]
        · simp only [if_neg h3] at h ⊢
          by_cases h4 : s.queue.length = 0
          · rw [if_pos h4] at h; exact absurd h (by decide)
          · simp only [if_neg h4]
            obtain ⟨a, b, c⟩ := one_rest 68 ByteArray.empty
            have b : letN (oneB 68 ++ ByteArray.empty) = 68 := b
            unfold takeR
            rw [if_neg (by omega), if_neg (by rw [b]; decide), if_neg (by rw [b]; decide), if_neg (by rw [b]; decide), if_neg (by rw [b]; decide), if_pos b, a, if_pos ⟨rfl, fun e => h4 (by rw [e]; rfl)⟩]
end Go.Proofs.YtffnkomnldgcaaaGreatDoor
