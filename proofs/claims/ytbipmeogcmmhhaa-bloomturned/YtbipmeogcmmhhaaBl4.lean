/-
  Places in one contract each; rows of bytes and of bools made; the count of ids; the bits as they grow.
-/
import Derived.Test.YtbipmeogcmmhhaaBl3
import Derived.Test.YtbipmeogcmmhhaaWOp
import Derived.Test.YtbipmeogcmmhhaaWa0
import Derived.Deep.OwnRows
namespace Go.Pal
open Go.RowKit
theorem cntB_take (l : List ByteArray) (k : Nat) (h : k < l.length) : cntB (l.take (k + 1)) = cntB (l.take k) + (if l[k].size = 32 then 1 else 0) := by
  unfold cntB
  rw [List.take_succ_eq_append_getElem h, List.filter_append, List.length_append]
  by_cases h1 : l[k].size = 32 <;> simp [h1]
theorem cntB_le (l : List ByteArray) : cntB l ≤ l.length := List.length_filter_le _ _
/-- The bits that ids set, one behind the other. -/
def growB (ids : List ByteArray) (m : Nat) : Nat → Bool := ids.foldl (fun f id => (placesB id m).foldl putB f) (fun _ => false)
theorem growB_take (l : List ByteArray) (m k : Nat) (h : k < l.length) : growB (l.take (k + 1)) m = (placesB l[k] m).foldl putB (growB (l.take k) m) := by
  unfold growB
  rw [List.take_succ_eq_append_getElem h, List.foldl_append]; rfl
theorem foldl_putB (l : List Nat) : ∀ f q, l.foldl putB f q = (f q || l.contains q) := by
  induction l with
  | nil => intro f q; simp
  | cons a r ih =>
    intro f q
    rw [List.foldl_cons, ih, putB, List.contains_cons, Bool.or_assoc]
theorem growB_eq (ids : List ByteArray) (m : Nat) : growB ids m = setB ids m := by
  have : ∀ (l : List ByteArray) f q, l.foldl (fun f id => (placesB id m).foldl putB f) f q = (f q || l.any fun id => (placesB id m).contains q) := by
    intro l
    induction l with
    | nil => intro f q; simp
    | cons a r ih => intro f q; rw [List.foldl_cons, ih, foldl_putB, List.any_cons, Bool.or_assoc]
  funext q
  unfold growB setB
  rw [this]; simp
def byV (f : Nat → Bool) (n : Nat) : List Value := (bitsL f n).map fun (x : Nat) => Value.int .u8 x
theorem byV_get (f : Nat → Bool) (n j : Nat) (h : j < n) : (byV f n)[j]? = some (.int .u8 (byte8 f j : Nat)) := by
  rw [byV, List.getElem?_map, bitsL_get f n j h]; rfl
theorem byV_put (f : Nat → Bool) (n p : Nat) : (byV f n).set (p / 8) (.int .u8 (byte8 (putB f p) (p / 8) : Nat)) = byV (putB f p) n := by
  rw [byV, byV, ← bitsL_put, List.map_set]
theorem byV_none (n : Nat) : byV (fun _ => false) n = List.replicate n (Value.int .u8 0) := by
  rw [byV, bitsL_none, List.map_replicate]; rfl
theorem placeB_lt (id : ByteArray) (m : Nat) (i : Nat) (h : 1 ≤ m) : placeB id m i < m := by
  unfold placeB; exact Nat.mod_lt _ (by simp; omega)
theorem placesB_yes {id : ByteArray} {m : Int} (h : placedB id m = true) : placesB id m = [placeB id m 0, placeB id m 1, placeB id m 2, placeB id m 3] := by unfold placesB; rw [if_pos h]
theorem placesB_no {id : ByteArray} {m : Int} (h : placedB id m = false) : placesB id m = [] := by unfold placesB; rw [if_neg (by rw [h]; decide)]
/-- A place's byte with its bit set, as it is reckoned. -/
theorem u8_put (f : Nat → Bool) (p : Nat) : bits .or .u8 (byte8 f (p / 8) : Nat) (2 ^ (p % 8) : Nat) = ((byte8 (putB f p) (p / 8) : Nat) : Int) := by
  have h1 := byte8_lt f (p / 8)
  have h2 : 2 ^ (p % 8) < 2 ^ 8 := Nat.pow_lt_pow_right (by decide) (Nat.mod_lt _ (by decide))
  rw [(bits_nat .u8 8 (by decide) (fun n h0 h1 => by rw [IntKind.wrap_u8]; omega) _ _ h1 h2).2, byte8_put]
theorem pow8 (r : Nat) (hr : r < 8) : ((2 : Int) ^ r % 256) = ((2 ^ r : Nat) : Int) := by
  have h2 : 2 ^ r < 2 ^ 8 := Nat.pow_lt_pow_right (by decide) hr
  have : ((2 : Int) ^ r) = ((2 ^ r : Nat) : Int) := by simp
  rw [this]; generalize 2 ^ r = p at *; omega
theorem u8_put' (f : Nat → Bool) (p : Nat) : bits .or .u8 (byte8 f (p / 8) : Nat) ((2 : Int) ^ (p % 8) % 256) = ((byte8 (putB f p) (p / 8) : Nat) : Int) := by
  rw [pow8 _ (Nat.mod_lt _ (by decide)), u8_put]
end Go.Pal
namespace Go.Proofs.Ytbipmeogcmmhhaa
open Go.RowKit Go.Pal
set_option linter.unusedVariables false

theorem madeY (n : Nat) : madeCells #[Value.int .u8 0] n = (List.replicate n (Value.int .u8 0)).toArray := by
  unfold madeCells
  apply Array.ext
  · simp
  · intro i h1 h2
    simp [Nat.mod_one]
theorem makeY (n : Nat) (hn : n ≤ 1000000) (w : World) : (Instr.makeSlice 81 (.int .i64 (n : Int)) (.int .i64 (n : Int))).run Try.prog w = .ok (.slice (some ⟨w.heap.size, 0, none⟩) n n) (w.alloc (.cells (List.replicate n (Value.int .u8 0)).toArray 5)) := by
  have h := run_make_row' (P := Try.prog) 81 5 (.int .u8 0) 1 Try.underlying81 (by kernel_rfl) rfl .i64 .i64 n (by omega) (by omega) w
  rw [madeY] at h
  exact h
theorem madeO (n : Nat) : madeCells #[Value.bool false] n = (List.replicate n (Value.bool false)).toArray := by
  unfold madeCells
  apply Array.ext
  · simp
  · intro i h1 h2
    simp [Nat.mod_one]
theorem makeO (n : Nat) (hn : n ≤ 1000000) (w : World) : (Instr.makeSlice 85 (.int .i64 (n : Int)) (.int .i64 (n : Int))).run Try.prog w = .ok (.slice (some ⟨w.heap.size, 0, none⟩) n n) (w.alloc (.cells (List.replicate n (Value.bool false)).toArray 4)) := by
  have h := run_make_row' (P := Try.prog) 85 4 (.bool false) 1 Try.underlying85 (by kernel_rfl) rfl .i64 .i64 n (by omega) (by omega) w
  rw [madeO] at h
  exact h
theorem text_bits (w : World) (B : Nat) (f : Nat → Bool) (n cap : Nat) (h : Blk w B 5 (byV f n)) :
    (convert 81 9 (.slice (some ⟨B, 0, none⟩) n cap)).run Try.prog w = .ok (.string (bitsB f n)) w := by
  have h1 := run_convert_bytes_arg (P := Try.prog) w 81 5 Try.underlying81 Try.underlying5 B 0 n cap ((bitsL f n).map fun (x : Nat) => (x : Int)) (by simp [bitsL_length]) (fun i hi => by
      rw [Nat.zero_add, h.cell i, byV_get f n i (by simpa [bitsL_length] using hi)]
      have hi' : i < n := by simpa [bitsL_length] using hi
      simp [bitsL, hi']) 9 Try.underlying9
  rw [h1]
  simp [strOfNums, bitsB, Function.comp_def]

theorem bRow_some {w : World} {a : Option Addr} {l : List ByteArray} (h : StrRow w a l) (h0 : 0 < l.length) : ∃ b off, a = some ⟨b, off, none⟩ ∧ b < w.heap.size ∧ ∀ i (hi : i < l.length), w.cell? ⟨b, off + i, none⟩ = some (.string l[i]) := by
  rcases h with h | ⟨b, off, rfl, hbl, hc⟩
  · rw [h] at h0; simp at h0
  · refine ⟨b, off, rfl, hbl, fun i hi => ?_⟩
    rw [hc i hi, List.getD_eq_getElem?_getD, List.getElem?_eq_getElem hi]; rfl

/-- What Places answers. -/
def PlAt (w : World) (base : Nat) (v : Value) (id : ByteArray) (m : Int) : Prop :=
  (placedB id m = false ∧ v = .slice none 0 0) ∨ (placedB id m = true ∧ ∃ g, v = .slice (some ⟨g, 0, none⟩) 4 4 ∧ Blk w g 3 (plV id m) ∧ base ≤ g)
theorem places_any (id : ByteArray) (m : Int) (w : World) :
    Calls Try.prog 38 #[.string id, .int .i64 m] w fun e w' => ∃ v, e = .returned v ∧ PlAt w' w.heap.size v id m ∧ Below w.heap.size w w' := by
  cases h : placedB id m with
  | false =>
    refine (places_no id m h w).mono ?_
    rintro e w' ⟨rfl, rfl⟩
    exact ⟨_, rfl, .inl ⟨h, rfl⟩, Below.refl _ _⟩
  | true =>
    have h' : id.size = 32 ∧ 1 ≤ m ∧ m ≤ 4096 := of_decide_eq_true h
    obtain ⟨k, rfl⟩ := Int.eq_ofNat_of_zero_le (a := m) (by omega)
    refine (places_yes id k h'.1 (by omega) (by omega) w).mono ?_
    rintro e w' ⟨g, rfl, hb, hg, hbl⟩
    exact ⟨_, rfl, .inr ⟨h, g, rfl, hb, hg⟩, hbl⟩
theorem refplaces_any (id : ByteArray) (m : Int) (w : World) :
    Calls Try.prog 39 #[.string id, .int .i64 m] w fun e w' => ∃ v, e = .returned v ∧ PlAt w' w.heap.size v id m ∧ Below w.heap.size w w' := by
  cases h : placedB id m with
  | false =>
    refine (refplaces_no id m h w).mono ?_
    rintro e w' ⟨rfl, rfl⟩
    exact ⟨_, rfl, .inl ⟨h, rfl⟩, Below.refl _ _⟩
  | true =>
    have h' : id.size = 32 ∧ 1 ≤ m ∧ m ≤ 4096 := of_decide_eq_true h
    obtain ⟨k, rfl⟩ := Int.eq_ofNat_of_zero_le (a := m) (by omega)
    refine (refplaces_yes id k h'.1 (by omega) (by omega) w).mono ?_
    rintro e w' ⟨g, rfl, hb, hg, hbl⟩
    exact ⟨_, rfl, .inr ⟨h, g, rfl, hb, hg⟩, hbl⟩
end Go.Proofs.Ytbipmeogcmmhhaa
