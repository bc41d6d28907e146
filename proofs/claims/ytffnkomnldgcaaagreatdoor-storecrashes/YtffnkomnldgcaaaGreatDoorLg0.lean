/-
  Plain mathematics for layers 10 and 11: segments of records on a disk; what an append, a crash and an opening make of them.
-/
import Derived.Test.YtffnkomnldgcaaaGreatDoorDk9
import Derived.Test.YtffnkomnldgcaaaGreatDoorCr2
import Derived.Lib.ItoaNum
namespace Go.Proofs.YtffnkomnldgcaaaGreatDoor
open Go.RowKit Go.Pal Go.Pal.Dk Go.Pal.Fr Go.Pal.Cr

def nRoom : ByteArray := ⟨#[114, 111, 111, 109]⟩
def nDot : ByteArray := ⟨#[46]⟩
def decB (i : Nat) : ByteArray := ⟨(Lib.decDigits i).toArray⟩
/-- The name of a segment. -/
def segN (i : Nat) : ByteArray := nRoom ++ nDot ++ decB i
def undec (l : List UInt8) : Nat := l.foldl (fun n c => n * 10 + (c.toNat - 48)) 0
theorem dec_small (i : Nat) (h : i < 100) : undec (Lib.decDigits i) = i ∧ 1 ≤ (Lib.decDigits i).length ∧ (Lib.decDigits i).length ≤ 2 := by
  by_cases h1 : i < 10
  · rw [Lib.decDigits, dif_pos h1]
    have e : (UInt8.ofNat (48 + i)).toNat = 48 + i := by rw [UInt8.toNat_ofNat']; omega
    simp [undec]; omega
  · rw [Lib.decDigits, dif_neg h1, Lib.decDigits, dif_pos (by omega)]
    have e : (UInt8.ofNat (48 + i / 10)).toNat = 48 + i / 10 := by rw [UInt8.toNat_ofNat']; omega
    have e2 : (UInt8.ofNat (48 + i % 10)).toNat = 48 + i % 10 := by rw [UInt8.toNat_ofNat']; omega
    simp [undec]; omega
theorem segN_size (i : Nat) (h : i < 100) : 6 ≤ (segN i).size ∧ (segN i).size ≤ 7 := by
  have h2 := dec_small i h
  have e : (decB i).size = (Lib.decDigits i).length := by simp [decB, ByteArray.size]
  rw [segN, ByteArray.size_append, ByteArray.size_append, e]
  have a : nRoom.size = 4 := rfl
  have b : nDot.size = 1 := rfl
  omega
theorem segN_ok (i : Nat) (h : i < 100) : nameOk (segN i) = true := by
  have := segN_size i h
  exact nameOk_yes (by omega) (by omega)
theorem segN_inj {i j : Nat} (hi : i < 100) (hj : j < 100) (h : segN i = segN j) : i = j := by
  have h1 : (segN i).data.toList = (segN j).data.toList := by rw [h]
  simp only [segN, ByteArray.data_append, Array.toList_append] at h1
  have h2 := List.append_cancel_left h1
  have h3 : Lib.decDigits i = Lib.decDigits j := by simpa [decB] using h2
  rw [← (dec_small i hi).1, ← (dec_small j hj).1, h3]

def sealL (l : List ByteArray) : ByteArray := cat (l.map sealB)
theorem sealL_nil : sealL [] = ByteArray.empty := rfl
theorem sealL_snoc (l : List ByteArray) (x : ByteArray) : sealL (l ++ [x]) = sealL l ++ sealB x := by simp [sealL, cat_snoc]
theorem sealL_cons (l : List ByteArray) (x : ByteArray) : sealL (x :: l) = sealB x ++ sealL l := by simp [sealL, cat_cons]
theorem opOk_empty : opOk ByteArray.empty = false := by decide

/-- What a segment holds. -/
def segD (gs : List (List ByteArray)) (tl : ByteArray) (i : Nat) : ByteArray := sealL (gs.getD i []) ++ (if i + 1 = gs.length then tl else ByteArray.empty)
/-- The segments on a disk: groups of records, and what stands behind the last one. -/
structure Segs (fs : List Fl) (gs : List (List ByteArray)) (tl : ByteArray) : Prop where
  few : gs.length ≤ 60
  at' : ∀ i, i < gs.length → ∃ f, atF fs (segN i) = some f ∧ f.data = segD gs tl i
  no : ∀ i, gs.length ≤ i → i < 100 → atF fs (segN i) = none
  recs : ∀ r ∈ gs.flatten, r.size ≤ 65535
  bad : opOk tl = false
  tl0 : gs = [] → tl = ByteArray.empty
/-- All that a segment holds is safe. -/
def SafeS (fs : List Fl) (gs : List (List ByteArray)) : Prop := ∀ i, i < gs.length → ∀ f, atF fs (segN i) = some f → f.safe = f.data.size
theorem segs_none : Segs [] [] ByteArray.empty := ⟨by simp, fun i h => by simp at h, fun _ _ _ => rfl, fun r h => by simp at h, opOk_empty, fun _ => rfl⟩
theorem safe_none (fs : List Fl) : SafeS fs [] := fun i h => by simp at h

/-- Where the next record goes. -/
def nextL (gs : List (List ByteArray)) : Nat := if 4096 ≤ (sealL (gs.getD (gs.length - 1) [])).size then gs.length - 1 + 1 else gs.length - 1
def addL (gs : List (List ByteArray)) (r : ByteArray) : List (List ByteArray) :=
  if nextL gs < gs.length then gs.dropLast ++ [gs.getD (gs.length - 1) [] ++ [r]] else gs ++ [[r]]
theorem nextL_le (gs : List (List ByteArray)) : nextL gs ≤ gs.length := by
  unfold nextL
  split
  · rename_i h
    cases gs with
    | nil => simp [sealL_nil] at h
    | cons a r => simp
  · omega
theorem nextL_last (gs : List (List ByteArray)) (h : nextL gs < gs.length) : nextL gs = gs.length - 1 := by
  unfold nextL at h ⊢
  split at h
  · omega
  · rename_i h2; rw [if_neg h2]
theorem snoc_of {α : Type} (gs : List (List α)) (h : 0 < gs.length) : gs = gs.dropLast ++ [gs.getD (gs.length - 1) []] := by
  have hne : gs ≠ [] := by intro e; subst e; simp at h
  conv => lhs; rw [← List.dropLast_concat_getLast hne]
  congr 1
  rw [List.getD_eq_getElem?_getD, List.getElem?_eq_getElem (by omega), List.getLast_eq_getElem]; rfl
theorem addL_flat (gs : List (List ByteArray)) (r : ByteArray) : (addL gs r).flatten = gs.flatten ++ [r] := by
  unfold addL
  split
  · rename_i h
    conv => rhs; rw [snoc_of gs (by omega)]
    simp
  · simp
theorem addL_length (gs : List (List ByteArray)) (r : ByteArray) : (addL gs r).length = max gs.length (nextL gs + 1) ∧ nextL gs + 1 = (addL gs r).length := by
  have h1 := nextL_le gs
  unfold addL
  split
  · rename_i h
    have := nextL_last gs h
    simp; omega
  · simp; omega
/-- What the segments hold behind one record more. -/
theorem addL_D (gs : List (List ByteArray)) (r : ByteArray) (i : Nat) (hi : i < (addL gs r).length) : segD (addL gs r) ByteArray.empty i = if i = nextL gs then segD gs ByteArray.empty i ++ sealB r else segD gs ByteArray.empty i := by
  have h0 := nextL_le gs
  have hl := (addL_length gs r).2
  unfold segD
  simp only [ite_self, app_empty]
  by_cases h : nextL gs < gs.length
  · have hn := nextL_last gs h
    have e : addL gs r = gs.dropLast ++ [gs.getD (gs.length - 1) [] ++ [r]] := by unfold addL; rw [if_pos h]
    have hd : gs.dropLast.length = gs.length - 1 := by simp
    by_cases hi2 : i = nextL gs
    · rw [if_pos hi2, e, hi2, hn]
      rw [List.getD_eq_getElem?_getD, List.getElem?_append_right (by omega), hd, Nat.sub_self]
      simp [sealL_snoc]
    · rw [if_neg hi2, e, List.getD_eq_getElem?_getD, List.getElem?_append_left (by omega), List.getD_eq_getElem?_getD, List.getElem?_dropLast, if_pos (by omega)]
  · have e : addL gs r = gs ++ [[r]] := by unfold addL; rw [if_neg h]
    by_cases hi2 : i = nextL gs
    · have hi3 : i = gs.length := by omega
      rw [if_pos hi2, e, hi3]
      simp [sealL, cat_cons, cat_nil]
    · have : i < gs.length := by omega
      rw [if_neg hi2, e, List.getD_eq_getElem?_getD, List.getElem?_append_left this, List.getD_eq_getElem?_getD]

/-- What a name leads to behind an append. -/
theorem atF_put {l : List Fl} (hs : SortedF l) (n s m : ByteArray) : atF (putF n s l) m = if m = n then some (match atF l n with | some f => more s f | none => ⟨n, s, 0⟩) else atF l m := by
  unfold putF
  cases h : atF l n with
  | some f =>
    simp only []
    rw [atF_modF hs (g := more s) (fun _ => rfl)]
    by_cases hm : m = n
    · subst hm
      rw [if_pos rfl, h]
      simp [(atF_some h).2]
    · rw [if_neg hm]
      cases h2 : atF l m with
      | none => rfl
      | some g => simp [(atF_some h2).2, hm]
  | none =>
    simp only []
    rw [atF_insF (x := ⟨n, s, 0⟩) (fun f hf => atF_none h f hf)]
    by_cases hm : m = n
    · rw [if_pos hm.symm, if_pos hm]
    · rw [if_neg (fun e => hm e.symm), if_neg hm]
/-- .. behind a sync. -/
theorem atF_sync {l : List Fl} (hs : SortedF l) (n m : ByteArray) : atF (modF n syncF l) m = (atF l m).map (fun f => if m = n then syncF f else f) := by
  rw [atF_modF hs (g := syncF) (fun _ => rfl)]
  cases h : atF l m with
  | none => rfl
  | some f => simp [(atF_some h).2]
theorem atF_cut {l : List Fl} (hs : SortedF l) (k : Nat) (n m : ByteArray) : atF (modF n (cutF k) l) m = (atF l m).map (fun f => if m = n then cutF k f else f) := by
  rw [atF_modF hs (g := cutF k) (fun _ => rfl)]
  cases h : atF l m with
  | none => rfl
  | some f => simp [(atF_some h).2]
theorem atF_crash (keep : List Int) (m : ByteArray) : ∀ (l : List Fl) (i : Nat), (∀ f ∈ l, f.safe ≤ f.data.size) →
    (atF l m = none → atF (crashF keep i l) m = none) ∧ ∀ f, atF l m = some f → ∃ k, f.safe ≤ k ∧ k ≤ f.data.size ∧ atF (crashF keep i l) m = some (cutF k f)
  | [], i, _ => ⟨fun _ => rfl, fun f h => by simp [atF] at h⟩
  | g :: r, i, hs => by
    have ih := atF_crash keep m r (i + 1) (fun f hf => hs f (List.mem_cons_of_mem _ hf))
    have hg := hs g List.mem_cons_self
    by_cases hn : g.name = m
    · refine ⟨fun h => absurd h (by simp [atF, hn]), fun f h => ?_⟩
      have e : f = g := by simpa [atF, hn] using h.symm
      subst e
      refine ⟨keptF keep i f, ?_, ?_, ?_⟩
      · unfold keptF; omega
      · unfold keptF; omega
      · simp [crashF, atF, cutF, hn]
    · have e1 : atF (g :: r) m = atF r m := by simp [atF, hn]
      have e2 : atF (crashF keep i (g :: r)) m = atF (crashF keep (i + 1) r) m := by simp [crashF, atF, cutF, hn]
      rw [e1, e2]; exact ih

/-- The data and safety of the segment to which the next record goes. -/
theorem next_file {fs : List Fl} {gs : List (List ByteArray)} (h : Segs fs gs ByteArray.empty) (hs : SafeS fs gs) (hf : gs.length ≤ 59) (r : ByteArray) :
    ∃ f : Fl, (match atF fs (segN (nextL gs)) with | some f => more (sealB r) f | none => ⟨segN (nextL gs), sealB r, 0⟩) = f ∧ f.data = segD gs ByteArray.empty (nextL gs) ++ sealB r ∧ f.safe = (segD gs ByteArray.empty (nextL gs)).size := by
  have h0 := nextL_le gs
  by_cases hn : nextL gs < gs.length
  · obtain ⟨f, h1, h2⟩ := h.at' _ hn
    rw [h1]
    refine ⟨_, rfl, ?_, ?_⟩
    · show f.data ++ _ = _; rw [h2]
    · show f.safe = _; rw [hs _ hn f h1, h2]
  · have e : nextL gs = gs.length := by omega
    rw [h.no (nextL gs) (by omega) (by omega)]
    have e2 : segD gs ByteArray.empty (nextL gs) = ByteArray.empty := by
      unfold segD
      rw [e, List.getD_eq_getElem?_getD, List.getElem?_eq_none (Nat.le_refl _)]
      simp [sealL_nil]
    refine ⟨_, rfl, ?_, ?_⟩
    · rw [e2, empty_app]
    · rw [e2]; rfl
theorem addL_rec {gs : List (List ByteArray)} {r : ByteArray} (h : ∀ x ∈ gs.flatten, x.size ≤ 65535) (hr : r.size ≤ 65535) : ∀ x ∈ (addL gs r).flatten, x.size ≤ 65535 := by
  intro x hx
  rw [addL_flat] at hx
  rcases List.mem_append.1 hx with h1 | h1
  · exact h x h1
  · rw [List.mem_singleton.1 h1]; exact hr
/-- A record that was appended and synced. -/
theorem segs_add {fs : List Fl} {gs : List (List ByteArray)} (h : Segs fs gs ByteArray.empty) (hs : SafeS fs gs) (ho : SortedF fs) (hf : gs.length ≤ 59) (r : ByteArray) (hr : r.size ≤ 65535) (ho2 : SortedF (putF (segN (nextL gs)) (sealB r) fs)) :
    Segs (modF (segN (nextL gs)) syncF (putF (segN (nextL gs)) (sealB r) fs)) (addL gs r) ByteArray.empty ∧ SafeS (modF (segN (nextL gs)) syncF (putF (segN (nextL gs)) (sealB r) fs)) (addL gs r) := by
  have h0 := nextL_le gs
  have hl := addL_length gs r
  obtain ⟨f, e1, e2, e3⟩ := next_file h hs hf r
  have hat : ∀ i, i < 100 → atF (modF (segN (nextL gs)) syncF (putF (segN (nextL gs)) (sealB r) fs)) (segN i) = if i = nextL gs then some (syncF f) else atF fs (segN i) := by
    intro i hi
    rw [atF_sync ho2, atF_put ho, e1]
    by_cases hi2 : i = nextL gs
    · subst hi2; simp
    · have hne : segN i ≠ segN (nextL gs) := fun e => hi2 (segN_inj hi (by omega) e)
      rw [if_neg hne, if_neg hi2]
      cases atF fs (segN i) with
      | none => rfl
      | some g => simp [hne]
  refine ⟨⟨by omega, ?_, ?_, addL_rec h.recs hr, opOk_empty, fun _ => rfl⟩, ?_⟩
  · intro i hi
    rw [hat i (by omega), addL_D gs r i hi]
    by_cases hi2 : i = nextL gs
    · rw [if_pos hi2, if_pos hi2, hi2]
      exact ⟨_, rfl, e2⟩
    · rw [if_neg hi2, if_neg hi2]
      exact h.at' i (by omega)
  · intro i hi hi3
    rw [hat i hi3, if_neg (by omega)]
    exact h.no i (by omega) hi3
  · intro i hi g hg
    rw [hat i (by omega)] at hg
    by_cases hi2 : i = nextL gs
    · rw [if_pos hi2] at hg
      obtain rfl := Option.some.inj hg
      rfl
    · rw [if_neg hi2] at hg
      exact hs i (by omega) g hg
/-- A crash when all is safe. -/
theorem segs_crash {fs : List Fl} {gs : List (List ByteArray)} (h : Segs fs gs ByteArray.empty) (hs : SafeS fs gs) (hsafe : ∀ f ∈ fs, f.safe ≤ f.data.size) (keep : List Int) : Segs (crashF keep 0 fs) gs ByteArray.empty := by
  refine ⟨h.few, ?_, ?_, h.recs, h.bad, h.tl0⟩
  · intro i hi
    obtain ⟨f, h1, h2⟩ := h.at' i hi
    obtain ⟨k, k1, k2, k3⟩ := (atF_crash keep (segN i) fs 0 hsafe).2 f h1
    have := hs i hi f h1
    have hk : k = f.data.size := by omega
    refine ⟨_, k3, ?_⟩
    show f.data.extract 0 k = _
    rw [hk, ByteArray.extract_zero_size, h2]
  · intro i hi hi2
    exact (atF_crash keep (segN i) fs 0 hsafe).1 (h.no i hi hi2)
/-- A crash when one record was appended, and not synced. -/
theorem segs_crash_under {fs : List Fl} {gs : List (List ByteArray)} (h : Segs fs gs ByteArray.empty) (hs : SafeS fs gs) (ho : SortedF fs) (hf : gs.length ≤ 59) (r : ByteArray) (hr : r.size ≤ 65535)
    (hsafe : ∀ f ∈ putF (segN (nextL gs)) (sealB r) fs, f.safe ≤ f.data.size) (keep : List Int) :
    ∃ gs2 tl, Segs (crashF keep 0 (putF (segN (nextL gs)) (sealB r) fs)) gs2 tl ∧ (gs2.flatten = gs.flatten ∨ gs2.flatten = gs.flatten ++ [r]) ∧ gs2.length ≤ gs.length + 1 := by
  have h0 := nextL_le gs
  have hl := addL_length gs r
  obtain ⟨f, e1, e2, e3⟩ := next_file h hs hf r
  have hat : ∀ i, i < 100 → atF (putF (segN (nextL gs)) (sealB r) fs) (segN i) = if i = nextL gs then some f else atF fs (segN i) := by
    intro i hi
    rw [atF_put ho, e1]
    by_cases hi2 : i = nextL gs
    · subst hi2; simp
    · have hne : segN i ≠ segN (nextL gs) := fun e => hi2 (segN_inj hi (by omega) e)
      rw [if_neg hne, if_neg hi2]
  obtain ⟨k, k1, k2, k3⟩ := (atF_crash keep (segN (nextL gs)) _ 0 hsafe).2 f (by rw [hat _ (by omega), if_pos rfl])
  have hother : ∀ i, i < gs.length → i ≠ nextL gs → ∃ g, atF (crashF keep 0 (putF (segN (nextL gs)) (sealB r) fs)) (segN i) = some g ∧ g.data = segD gs ByteArray.empty i := by
    intro i hi hi2
    obtain ⟨g, g1, g2⟩ := h.at' i hi
    obtain ⟨k', a1, a2, a3⟩ := (atF_crash keep (segN i) _ 0 hsafe).2 g (by rw [hat _ (by have := h.few; omega), if_neg hi2, g1])
    have := hs i hi g g1
    have hk : k' = g.data.size := by omega
    refine ⟨_, a3, ?_⟩
    show g.data.extract 0 k' = _
    rw [hk, ByteArray.extract_zero_size, g2]
  have hnone : ∀ i, gs.length ≤ i → i ≠ nextL gs → i < 100 → atF (crashF keep 0 (putF (segN (nextL gs)) (sealB r) fs)) (segN i) = none := fun i hi hi2 hi3 => (atF_crash keep (segN i) _ 0 hsafe).1 (by rw [hat i hi3, if_neg hi2]; exact h.no i hi hi3)
  by_cases hk : k = f.data.size
  · refine ⟨addL gs r, ByteArray.empty, ⟨by omega, ?_, ?_, addL_rec h.recs hr, opOk_empty, fun _ => rfl⟩, .inr (addL_flat gs r), by omega⟩
    · intro i hi
      rw [addL_D gs r i hi]
      by_cases hi2 : i = nextL gs
      · rw [if_pos hi2, hi2]
        refine ⟨_, k3, ?_⟩
        show f.data.extract 0 k = _
        rw [hk, ByteArray.extract_zero_size, e2]
      · rw [if_neg hi2]
        exact hother i (by omega) hi2
    · intro i hi hi2
      exact hnone i (by omega) (by omega) hi2
  · generalize hB : segD gs ByteArray.empty (nextL gs) = B at *
    have hlt : k - B.size < (sealB r).size := by rw [e2, ByteArray.size_append] at hk k2; omega
    have hd : f.data.extract 0 k = B ++ (sealB r).extract 0 (k - B.size) := by
      rw [e2, ByteArray.ext_iff]
      apply Array.toList_inj.1
      have : k = B.size + (k - B.size) := by omega
      rw [this, Nat.add_sub_cancel_left]
      generalize k - B.size = j
      simp [ByteArray.data_extract, ByteArray.data_append]
      exact List.take_of_length_le (by rw [Array.length_toList]; show B.size ≤ _; omega)
    by_cases hn : nextL gs < gs.length
    · have hn2 := nextL_last gs hn
      refine ⟨gs, (sealB r).extract 0 (k - B.size), ⟨h.few, ?_, ?_, h.recs, open_cut r _ hr hlt, fun e => by rw [e] at hn; simp at hn⟩, .inl rfl, by omega⟩
      · intro i hi
        by_cases hi2 : i = nextL gs
        · refine ⟨_, by rw [hi2]; exact k3, ?_⟩
          show f.data.extract 0 k = _
          rw [hd, ← hB, hi2]
          unfold segD
          rw [if_pos (show nextL gs + 1 = gs.length by omega), if_pos (show nextL gs + 1 = gs.length by omega), app_empty]
        · obtain ⟨g, g1, g2⟩ := hother i hi hi2
          refine ⟨g, g1, ?_⟩
          rw [g2]
          unfold segD
          rw [if_neg (show ¬ (i + 1 = gs.length) by omega), if_neg (show ¬ (i + 1 = gs.length) by omega)]
      · intro i hi hi2
        exact hnone i hi (by omega) hi2
    · have hn2 : nextL gs = gs.length := by omega
      have hB0 : B = ByteArray.empty := by
        rw [← hB]
        unfold segD
        rw [hn2, List.getD_eq_getElem?_getD, List.getElem?_eq_none (Nat.le_refl _)]
        simp [sealL_nil]
      refine ⟨gs ++ [[]], (sealB r).extract 0 (k - B.size), ⟨by simp; omega, ?_, ?_, by simpa using h.recs, open_cut r _ hr hlt, fun e => by simp at e⟩, .inl (by simp), by simp⟩
      · intro i hi
        simp only [List.length_append, List.length_cons, List.length_nil] at hi
        by_cases hi2 : i = nextL gs
        · refine ⟨_, by rw [hi2]; exact k3, ?_⟩
          show f.data.extract 0 k = _
          rw [hd, hB0, hi2, hn2]
          unfold segD
          simp [sealL_nil]
        · obtain ⟨g, g1, g2⟩ := hother i (by omega) hi2
          refine ⟨g, g1, ?_⟩
          rw [g2]
          unfold segD
          rw [ite_self, if_neg (show ¬ (i + 1 = (gs ++ [([] : List ByteArray)]).length) by simp; omega), List.getD_eq_getElem?_getD, List.getD_eq_getElem?_getD, List.getElem?_append_left (by omega)]
      · intro i hi hi2
        simp only [List.length_append, List.length_cons, List.length_nil] at hi
        exact hnone i (by omega) (by omega) hi2
end Go.Proofs.YtffnkomnldgcaaaGreatDoor
