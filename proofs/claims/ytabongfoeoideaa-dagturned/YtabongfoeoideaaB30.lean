/-
  The document's own of layer 12: Find, Parents.
  The document's own of layer 12: Add.
  The document's own of layer 12: Past.
  The document's own of layer 12: Heads.
  The document's own of layer 12: Order.
  Layer 12: the program's dag and the document's list beside each other.
-/
import Derived.Test.YtabongfoeoideaaDgm
import Derived.Test.YtabongfoeoideaaRf1
import Derived.Laws.AppendOwnNone
import Derived.BigQuiet
namespace Go.Pal
open Go.RowKit
set_option linter.unusedVariables false
theorem look_first {es : List (ByteArray × List ByteArray)} {s : ByteArray} {i : Nat} (hi : i < es.length) (h : es[i].1 = s) (hno : ∀ j (hj : j < i), (es[j]'(by omega)).1 ≠ s) : lookE es s = some es[i] := by
  unfold lookE
  induction es generalizing i with
  | nil => cases hi
  | cons e r ih =>
    rw [List.find?_cons]
    cases i with
    | zero => have h0 : e.1 = s := h
              rw [decide_eq_true h0]; rfl
    | succ k =>
      have h0 := hno 0 (by omega)
      rw [decide_eq_false (show ¬ e.1 = s from h0)]
      exact ih (by simpa using hi) h (fun j hj => hno (j + 1) (by omega))
theorem look_no {es : List (ByteArray × List ByteArray)} {s : ByteArray} (h : ∀ j (hj : j < es.length), (es[j]).1 ≠ s) : lookE es s = none := by
  unfold lookE
  rw [List.find?_eq_none]
  intro e he
  obtain ⟨j, hj, rfl⟩ := List.mem_iff_getElem.1 he
  simpa using h j hj
end Go.Pal
namespace Go.Proofs.Ytabongfoeoideaa
open Go.RowKit Go.Pal Go.Shelf
set_option linter.unusedVariables false
def esEn (l : List En) : List (ByteArray × List ByteArray) := l.map (fun c => entOf c.id c.par)
theorem esEn_len (l : List En) : (esEn l).length = l.length := by simp [esEn]
theorem esEn_get (l : List En) (i : Nat) (hi : i < l.length) : (esEn l)[i]'(by rw [esEn_len]; exact hi) = entOf l[i].id l[i].par := by simp [esEn]
theorem esEn_append (l m : List En) : esEn (l ++ m) = esEn l ++ esEn m := by simp [esEn]
/-- What Find answers. -/
def FoundAt (l : List En) (s : ByteArray) (n : Int) : Prop := ((lookE (esEn l) s).isSome = false ∧ n = -1) ∨ ∃ i, ∃ hi : i < l.length, n = i ∧ l[i].id = s ∧ lookE (esEn l) s = some (entOf l[i].id l[i].par)
theorem cells_en {w : World} {a : Option Addr} {l : List En} (h : EnsAt w a l) {k : Nat} (hk : k < l.length) : ∃ b off, a = some ⟨b, off, none⟩ ∧ b < w.heap.size ∧ w.cell? ⟨b, off + k * 2, none⟩ = some (.string l[k].id) ∧ w.cell? ⟨b, off + k * 2 + 1, none⟩ = some (.slice l[k].at_ l[k].par.length l[k].cap) := by
  obtain ⟨b, off, e, hb, hc⟩ := h.at_ hk
  exact ⟨b, off, e, hb, hc 0 (by omega), hc 1 (by omega)⟩
set_option maxHeartbeats 1000000 in
set_option maxRecDepth 100000 in
theorem rfind_any {w : World} {a : Option Addr} {cap : Nat} {l : List En} (h : EnsAt w a l) (s : ByteArray) :
    Calls Try.prog 16 #[.slice a l.length cap, .string s] w fun e w' => (∃ n, e = .returned (.int .i64 n) ∧ FoundAt l s n) ∧ w' = w := by
  have HC := Lib.hid (fun k hk => cells_en (k := k) h hk)
  have hlen := h.len
  unfold maxLen at hlen
  have HY := Lib.hid (fun (i : Nat) (hi : i < l.length) (hs : l[i].id = s) (hno : ∀ j (hj : j < i), (l[j]'(by omega)).id ≠ s) => show FoundAt l s i from .inr ⟨i, hi, rfl, hs, by
    have := look_first (es := esEn l) (s := s) (i := i) (by rw [esEn_len]; exact hi) (by rw [esEn_get l i hi]; exact hs) (fun j hj => by rw [esEn_get l j (by omega)]; exact hno j hj)
    rw [this, esEn_get l i hi]⟩)
  have HN := Lib.hid (fun (hno : ∀ j (hj : j < l.length), (l[j]).id ≠ s) => show FoundAt l s (-1) from .inl ⟨by
    rw [look_no (fun j hj => by
      have hj2 : j < l.length := by rw [esEn_len] at hj; exact hj
      rw [esEn_get l j hj2]; exact hno j hj2)]; rfl, rfl⟩)
  clear h
  go_enter Try.func16, Try.ntmps16
  go_wp2
  go_loop [5] (fun j => ∃ k : Nat, k ≤ l.length ∧ j = .int .i64 k ∧ (∀ i (hi : i < k) (hl : i < l.length), l[i].id ≠ s)) (fun j => l.length - (intOf j).toNat)
  case atStart => exact ⟨0, Nat.zero_le _, rfl, fun i hi => absurd hi (Nat.not_lt_zero i)⟩
  case round =>
    obtain ⟨k, hk, rfl, hno⟩ := hrel
    have HNO := Lib.hid hno
    clear hno
    by_cases hlt : k < l.length
    · obtain ⟨b, off, rfl, _, c0, _⟩ := HC.out k hlt
      by_cases he : l[k].id = s
      · have HF := Lib.hid (HY.out k hlt he (fun j hj => HNO.out j hj (by omega)))
        rw [he] at c0
        have heq := beqWT (a := s)
        clear he
        go_wp2
        go_ret
        exact ⟨⟨_, rfl, HF.out⟩, rfl⟩
      · have hne := beqWF he
        have HNE := Lib.hid he
        clear he
        generalize hid : l[k].id = id at *
        have HID := Lib.hid hid
        clear hid
        go_wp2
        go_round
        case rel =>
          refine ⟨k + 1, by omega, by go_num, fun i hi hl => ?_⟩
          by_cases e : i = k
          · subst e; rw [HID.out]; exact HNE.out
          · exact HNO.out i (by omega) hl
        case measure => simp [intOf]; omega
    · have HF := Lib.hid (HN.out (fun j hj => HNO.out j (by omega) hj))
      go_wp2
      go_ret
      exact ⟨⟨_, rfl, HF.out⟩, rfl⟩
/-- Find, by whether it is there. -/
theorem rfind_no {w : World} {a : Option Addr} {cap : Nat} {l : List En} (h : EnsAt w a l) {s : ByteArray} (hs : (lookE (esEn l) s).isSome = false) :
    Calls Try.prog 16 #[.slice a l.length cap, .string s] w fun e w' => e = .returned (.int .i64 (-1)) ∧ w' = w := by
  refine (rfind_any h s).mono ?_
  rintro e w' ⟨⟨n, rfl, hf⟩, rfl⟩
  rcases hf with ⟨_, rfl⟩ | ⟨i, hi, _, _, hl⟩
  · exact ⟨rfl, rfl⟩
  · rw [hl] at hs; cases hs
theorem rfind_yes {w : World} {a : Option Addr} {cap : Nat} {l : List En} (h : EnsAt w a l) {s : ByteArray} (hs : (lookE (esEn l) s).isSome = true) :
    Calls Try.prog 16 #[.slice a l.length cap, .string s] w fun e w' => (∃ i, ∃ hi : i < l.length, e = .returned (.int .i64 (i : Nat)) ∧ l[i].id = s ∧ parE (esEn l) s = l[i].par) ∧ w' = w := by
  refine (rfind_any h s).mono ?_
  rintro e w' ⟨⟨n, rfl, hf⟩, rfl⟩
  rcases hf with ⟨h0, _⟩ | ⟨i, hi, rfl, h1, hl⟩
  · rw [hs] at h0; cases h0
  · exact ⟨⟨i, hi, rfl, h1, by unfold parE; rw [hl]; rfl⟩, rfl⟩
set_option maxHeartbeats 1000000 in
set_option maxRecDepth 100000 in
theorem rparents_any {w W : World} {a : Option Addr} {cap : Nat} {l : List En} (h : EnsAt w a l) (hW : Below w.heap.size w W) (s : ByteArray) :
    Calls Try.prog 20 #[.slice a l.length cap, .string s] W fun e w' => (∃ p c, e = .returned (.slice p (parE (esEn l) s).length c) ∧ StrRow w p (parE (esEn l) s) ∧ (p = none → c = 0)) ∧ w' = W := by
  cases ht : (lookE (esEn l) s).isSome with
  | false =>
    have HF := Lib.hid (rfind_no (cap := cap) (h.below hW) ht)
    have HP := Lib.hid (show parE (esEn l) s = [] by unfold parE; cases hl : lookE (esEn l) s with
      | none => rfl
      | some e => rw [hl] at ht; cases ht)
    clear h ht hW
    go_enter Try.func20, Try.ntmps20
    go_wp2_with (go_at_call 16; refine HF.out.mono ?_; rintro e w' ⟨rfl, e9⟩; rw [e9]; clear e9 w')
    go_ret
    rw [HP.out]
    exact ⟨⟨none, 0, rfl, .inl rfl, fun _ => rfl⟩, rfl⟩
  | true =>
    have HF := Lib.hid (rfind_yes (cap := cap) (h.below hW) ht)
    have HC := Lib.hid (fun k hk => cells_en (k := k) (h.below hW) hk)
    have HK := Lib.hid (fun k (hk : k < l.length) => show StrRow w l[k].at_ l[k].par ∧ (l[k].at_ = none → l[k].cap = 0) from ⟨(h.ok _ (List.getElem_mem hk)).par.row, (h.ok _ (List.getElem_mem hk)).nil⟩)
    have hlen := h.len
    unfold maxLen at hlen
    have HA := Lib.hid (show ∀ i (hi : i < l.length), ∃ b off, a = some ⟨b, off, none⟩ ∧ W.cell? ⟨b, off + i * 2 + 1, none⟩ = some (.slice l[i].at_ l[i].par.length l[i].cap) from fun i hi => by
      obtain ⟨b, off, e, _, _, c1⟩ := HC.out i hi
      exact ⟨b, off, e, c1⟩)
    clear h ht HC hW
    go_enter Try.func20, Try.ntmps20
    go_wp2_with (go_at_call 16; refine HF.out.mono ?_; rintro e w' ⟨⟨i, hi, rfl, _, hp⟩, e9⟩; rw [e9]; clear e9 w'; have HP := Lib.hid hp; clear hp; obtain ⟨b, off, e8, c1⟩ := HA.out i hi; have i0 : ¬ ((i : Int) < 0) := (by omega); have i2 : (0 : Int) ≤ (i : Int) := (by omega); have i1 : (i : Int) < (l.length : Int) := (by omega); subst e8)
    go_ret
    rw [HP.out]
    exact ⟨⟨_, _, rfl, (HK.out i hi).1, (HK.out i hi).2⟩, rfl⟩
end Go.Proofs.Ytabongfoeoideaa
namespace Go.Proofs.Ytabongfoeoideaa
open Go.RowKit Go.Pal Go.Shelf
set_option linter.unusedVariables false
def cellsE : List En → List Value
  | [] => []
  | f :: r => f.cells ++ cellsE r
theorem cellsE_length : ∀ l : List En, (cellsE l).length = l.length * 2
  | [] => rfl
  | f :: r => by simp only [cellsE, En.cells, List.length_append, List.length_cons, List.length_nil, cellsE_length r]; omega
theorem cellsE_append : ∀ l m : List En, cellsE (l ++ m) = cellsE l ++ cellsE m
  | [], m => rfl
  | f :: r, m => by simp [cellsE, cellsE_append r m]
theorem cellsE_get : ∀ (l : List En) (i : Nat) (hi : i < l.length) (j : Nat), j < 2 → (cellsE l)[i * 2 + j]? = (l[i].cells)[j]?
  | f :: r, 0, _, j, hj => by
    simp only [cellsE, Nat.zero_mul, Nat.zero_add]
    rw [List.getElem?_append_left (by simp [En.cells]; omega)]; rfl
  | f :: r, i + 1, hi, j, hj => by
    simp only [cellsE]
    rw [List.getElem?_append_right (by simp [En.cells]; omega)]
    rw [show (i + 1) * 2 + j - f.cells.length = i * 2 + j by simp [En.cells]; omega]
    exact cellsE_get r i (by simpa using hi) j hj
theorem cellsE_one : ∀ (l : List En), ∀ u ∈ cellsE l, u.oneCell' = true
  | [], u, h => by cases h
  | f :: r, u, h => by
    rcases List.mem_append.1 h with h | h
    · simp only [En.cells, List.mem_cons, List.not_mem_nil, or_false] at h
      rcases h with rfl | rfl <;> rfl
    · exact cellsE_one r u h
theorem ens_holds {w : World} {b off : Nat} {l : List En} (h : ∀ i c, l[i]? = some c → ∀ j, j < 2 → w.cell? ⟨b, off + i * 2 + j, none⟩ = c.cells[j]?) : ∀ j u, (cellsE l)[j]? = some u → w.cell? ((⟨b, off, none⟩ : Addr).add j) = some u := fun j u hu => by
  have hj := (List.getElem?_eq_some_iff.1 hu).1
  rw [cellsE_length] at hj
  have hi : j / 2 < l.length := by omega
  rw [Go.WideShapes.add_plain]
  have e : j = j / 2 * 2 + j % 2 := by omega
  have h1 := h (j / 2) l[j / 2] (by simp [hi]) (j % 2) (by omega)
  rw [e, cellsE_get l (j / 2) hi (j % 2) (by omega)] at hu
  rw [show off + j = off + j / 2 * 2 + j % 2 by omega, h1, hu]
theorem ens_own {w : World} {base : Nat} {p : Option Addr} {n cap : Nat} {l : List En} (h : w.ownsRow base 32 2 (.slice p n cap) n (cellsE l)) (hl : l.length ≤ maxLen) (hok : ∀ c ∈ l, EnOk w c) : n = l.length ∧ EnsAt w p l ∧ (p = none → cap = 0) := by
  have hn : n = l.length := by have h1 := h.1; rw [cellsE_length] at h1; omega
  subst hn
  refine ⟨rfl, ⟨hl, hok, ?_⟩, ?_⟩
  · by_cases h0 : l = []
    · exact .inl h0
    · obtain ⟨p', cap', e, _, _, hp⟩ := rowS_form h
      cases e
      have hpos : 0 < l.length := List.length_pos_iff.2 h0
      obtain ⟨g, rfl⟩ := hp hpos
      refine .inr ⟨g, 0, rfl, (own_lt h (g := g) rfl).1, fun i c hi j hj => ?_⟩
      obtain ⟨hi2, hic⟩ := List.getElem?_eq_some_iff.1 hi
      rw [Nat.zero_add, (ownS_cell h (i * 2 + j) (by omega)).1, cellsE_get l i hi2 j hj, hic]
  · rintro rfl
    rcases h.2 with ⟨e, _⟩ | ⟨g, cap', cur, e, _⟩
    · injection e
    · injection e with e1; cases e1
theorem addC_rise (es : List (ByteArray × List ByteArray)) (ps : List ByteArray) : ps.all (fun p => (lookE es p).isSome) = (riseL ps).all (fun p => (lookE es p).isSome) := by
  rw [Bool.eq_iff_iff, List.all_eq_true, List.all_eq_true]
  exact ⟨fun h x hx => h x ((mem_rise ps x).1 hx), fun h x hx => h x ((mem_rise ps x).2 hx)⟩
theorem empty_own {w1 : World} {base : Nat} (h : base ≤ w1.heap.size) : (w1.alloc (.cells #[] 32)).ownsRow base 32 2 (.slice (some ⟨w1.heap.size, 0, none⟩) 0 0) 0 [] := ⟨rfl, .inr ⟨w1.heap.size, 0, #[], rfl, h, heap_alloc_new _ _, Nat.le_refl _, Nat.zero_le _, rfl, rfl⟩⟩
theorem empty_below {w1 w2 : World} {o : Obj} {n c : Nat} (h : (w1.alloc o).grownBy w2 (Value.ownBlock (.slice (some ⟨w1.heap.size, 0, none⟩) n c))) : Below w1.heap.size w1 w2 :=
  ((Below.refl _ _).alloc (Nat.le_refl _) _).grown h (by simp) (fun j hj => by
    have : w1.heap.size = j := by simpa [Value.ownBlock] using hj
    omega)
theorem last_below {w1 w2 w3 : World} {t : TypeId} {n size : Nat} {v : Value} {xs : List Value} {o : Obj} (h : w2.ownsRow w1.heap.size t size v n xs) (hg : (w2.alloc o).grownBy w3 v.ownBlock) (hs : w1.heap.size ≤ w2.heap.size) : Below w1.heap.size w2 w3 :=
  ((Below.refl _ _).alloc hs o).grown hg (by simp; omega) (fun j hj => (own_lt h hj).2.1)
/-- What the document's Add leaves. -/
def RAdd (w : World) (a : Option Addr) (l : List En) (id : ByteArray) (ps : List ByteArray) (e : Ending) (w' : World) : Prop :=
  ∃ a' cap' l', e = .returned (.tuple #[.slice a' l'.length cap', .int .i64 (addC (esEn l) id ps)]) ∧ (∀ W, EnsAt W a l → (∀ g, w.heap.size ≤ g → g < w'.heap.size → W.heap[g]? = w'.heap[g]?) → EnsAt W a' l') ∧ (a' = none → cap' = 0) ∧ esEn l' = addE (esEn l) id ps ∧ Below w.heap.size w w'
set_option maxHeartbeats 2000000 in
set_option maxRecDepth 100000 in
theorem radd_any {w : World} {a : Option Addr} {cap : Nat} {l : List En} (h : EnsAt w a l) (hnil : a = none → cap = 0) (hl : l.length ≤ 1000) (id : ByteArray) {p : Option Addr} {pc : Nat} {ps : List ByteArray} (hr : StrRow w p ps) (hps : ps.length ≤ 60) (hz : ∀ s ∈ ps, s.size ≤ 140737488351232) :
    Calls Try.prog 13 #[.slice a l.length cap, .string id, .slice p ps.length pc] w fun e w' => RAdd w a l id ps e w' := by
  have hsame : ∀ c : Int, addC (esEn l) id ps = c → c ≠ 0 → ∀ w', Below w.heap.size w w' → RAdd w a l id ps (.returned (.tuple #[.slice a l.length cap, .int .i64 c])) w' := fun c hc h0 w' hb =>
    ⟨a, cap, l, by rw [hc], fun W hW _ => hW, hnil, by unfold addE; rw [hc, if_neg h0], hb⟩
  have HSM := Lib.hid hsame
  by_cases h1 : id.size = 0
  · have HC := Lib.hid (show addC (esEn l) id ps = 1 by unfold addC; rw [if_pos (.inl h1)])
    clear h hnil hr hz hsame
    go_enter Try.func13, Try.ntmps13
    go_wp2
    go_ret2
    exact HSM.out 1 HC.out (by decide) _ (Below.refl _ _)
  by_cases h2 : 64 < id.size
  · have HC := Lib.hid (show addC (esEn l) id ps = 1 by unfold addC; rw [if_pos (.inr h2)])
    have h1i : ¬ ((id.size : Int) < 1) := by omega
    have h2i : (64 : Int) < (id.size : Int) := by omega
    clear h hnil hr hz hsame
    go_enter Try.func13, Try.ntmps13
    go_wp2
    go_ret2
    exact HSM.out 1 HC.out (by decide) _ (Below.refl _ _)
  have h1i : ¬ ((id.size : Int) < 1) := by omega
  have h2i : ¬ ((64 : Int) < (id.size : Int)) := by omega
  have hC1 : addC (esEn l) id ps = if (lookE (esEn l) id).isSome then 11 else if 300 ≤ l.length then 3 else if (riseL ps).all (fun p => (lookE (esEn l) p).isSome) then 0 else 9 := by
    unfold addC; rw [if_neg (by omega), addC_rise, esEn_len]
  cases ht : (lookE (esEn l) id).isSome with
  | true =>
    have HC := Lib.hid (show addC (esEn l) id ps = 11 by rw [hC1, ht]; rfl)
    have HF := Lib.hid (rfind_yes (cap := cap) h ht)
    clear h hnil hr hz hsame hC1
    go_enter Try.func13, Try.ntmps13
    go_wp2_with (go_at_call 16; refine HF.out.mono ?_; rintro e w' ⟨⟨i, hi, rfl, _, _⟩, e9⟩; rw [e9]; clear e9 w'; have i0 : (0 : Int) ≤ (i : Int) := (by omega))
    go_ret2
    exact HSM.out 11 HC.out (by decide) _ (Below.refl _ _)
  | false =>
    have HF := Lib.hid (rfind_no (cap := cap) h ht)
    rw [ht, if_neg Bool.false_ne_true] at hC1
    by_cases h3 : 300 ≤ l.length
    · have h3i : (300 : Int) ≤ (l.length : Int) := by omega
      have HC := Lib.hid (show addC (esEn l) id ps = 3 by rw [hC1, if_pos h3])
      clear h hnil hr hz hsame hC1
      go_enter Try.func13, Try.ntmps13
      go_wp2_with (go_at_call 16; refine HF.out.mono ?_; rintro e w' ⟨rfl, e9⟩; rw [e9]; clear e9 w')
      go_ret2
      exact HSM.out 3 HC.out (by decide) _ (Below.refl _ _)
    rw [if_neg h3] at hC1
    have h3i : ¬ ((300 : Int) ≤ (l.length : Int)) := by omega
    have HSR := Lib.hid (rsorted_any (cap := pc) hr (by omega))
    have hRl : (riseL ps).length ≤ 60 := Nat.le_trans (rise_le ps) hps
    have HRZ := Lib.hid (show ∀ s ∈ riseL ps, s.size ≤ 140737488351232 from fun s hs => hz s ((mem_rise ps s).1 hs))
    have HH := Lib.hid h
    have HFN := Lib.hid (fun W (hW : Below w.heap.size w W) s (hs : (lookE (esEn l) s).isSome = false) => rfind_no (cap := cap) (h.below hW) hs)
    have HFY := Lib.hid (fun W (hW : Below w.heap.size w W) s (hs : (lookE (esEn l) s).isSome = true) => rfind_yes (cap := cap) (h.below hW) hs)
    have HC9 := Lib.hid (show ∀ x ∈ riseL ps, (lookE (esEn l) x).isSome = false → addC (esEn l) id ps = 9 from fun x hx hx2 => by
      rw [hC1]
      have : ¬ (riseL ps).all (fun p => (lookE (esEn l) p).isSome) = true := fun hh => by
        have := List.all_eq_true.1 hh x hx
        rw [hx2] at this; cases this
      rw [if_neg this])
    have HC0 := Lib.hid (show (∀ k (hk : k < (riseL ps).length), (lookE (esEn l) (riseL ps)[k]).isSome = true) → addC (esEn l) id ps = 0 ∧ addE (esEn l) id ps = esEn l ++ [entOf id (riseL ps)] from fun hh => by
      have h0 : addC (esEn l) id ps = 0 := by
        rw [hC1, if_pos]
        exact List.all_eq_true.2 fun x hx => by obtain ⟨k, hk, rfl⟩ := List.mem_iff_getElem.1 hx; exact hh k hk
      exact ⟨h0, by unfold addE; rw [if_pos h0]⟩)
    obtain ⟨i0, hi0, hz0, hz1, hz2⟩ := info_parts (show (Try.prog.info? 32).map (fun i => (i.zero, i.size, i.bytes)) = some (some (.agg #[.string ⟨#[]⟩, .slice none 0 0]), 2, 40) by kernel_rfl)
    have I0 := Lib.hid hi0
    have Z0 := Lib.hid hz0
    have Z1 := Lib.hid hz1
    have Z2 := Lib.hid hz2
    have HNIL := Lib.hid hnil
    have HIZ := Lib.hid (show id.size ≤ 140737488351232 by omega)
    clear h hnil hr hz hsame hC1 hi0 hz0 hz1 hz2
    generalize riseL ps = P at *
    go_enter Try.func13, Try.ntmps13
    go_wp2_with (first
      | (go_at_call 31; refine HSR.out.mono ?_; rintro e w1 ⟨v1, rfl, o1, b1⟩; obtain ⟨p1, c1, rfl, _⟩ := rowS_form o1; have O1 := Lib.hid (show OwnL w1 w.heap.size (.slice p1 P.length c1) P from o1); have B1 := Lib.hid b1; clear o1 b1)
      | (go_at_call 16; refine HF.out.mono ?_; rintro e w' ⟨rfl, e9⟩; rw [e9]; clear e9 w'))
    clear HF HSR
    go_loop [9] (fun j => ∃ k : Nat, k ≤ P.length ∧ j = .int .i64 k ∧ (∀ i (hi : i < k) (hl : i < P.length), (lookE (esEn l) P[i]).isSome = true)) (fun j => P.length - (intOf j).toNat)
    case atStart => exact ⟨0, Nat.zero_le _, rfl, fun i hi => absurd hi (Nat.not_lt_zero i)⟩
    case round =>
      obtain ⟨k, hk, rfl, hall⟩ := hrel
      have HALL := Lib.hid hall
      clear hall
      by_cases hlt : k < P.length
      · obtain ⟨g, rfl, hg, hcell⟩ := row_cell12 O1.out (by omega)
        have ck := hcell k hlt
        have hkm := List.getElem_mem hlt
        have HE := Lib.hid (show ∃ x, P[k] = x from ⟨_, rfl⟩)
        obtain ⟨x, hx⟩ := HE.out
        have HX := Lib.hid hx
        clear HE hcell
        rw [hx] at ck hkm
        clear hx
        cases hxt : (lookE (esEn l) x).isSome with
        | true =>
          have HF := Lib.hid (HFY.out w1 B1.out x hxt)
          have HXT := Lib.hid hxt
          clear hxt
          go_wp2_with (go_at_call 16; refine HF.out.mono ?_; rintro e w' ⟨⟨i, hi, rfl, _, _⟩, e9⟩; rw [e9]; clear e9 w'; have i0 : ¬ ((i : Int) < 0) := (by omega))
          go_round
          case rel =>
            refine ⟨k + 1, by omega, by go_num, fun i hi hl => ?_⟩
            by_cases e : i = k
            · subst e; rw [HX.out]; exact HXT.out
            · exact HALL.out i (by omega) hl
          case measure => simp [intOf]; omega
        | false =>
          have HF := Lib.hid (HFN.out w1 B1.out x hxt)
          have HC := Lib.hid (HC9.out x hkm hxt)
          clear hxt
          go_wp2_with (go_at_call 16; refine HF.out.mono ?_; rintro e w' ⟨rfl, e9⟩; rw [e9]; clear e9 w')
          go_ret2
          exact HSM.out 9 HC.out (by decide) _ B1.out
      · obtain rfl : k = P.length := by omega
        obtain ⟨hc0, hce⟩ := HC0.out (fun k hk => HALL.out k hk hk)
        have HC := Lib.hid hc0
        have HCE := Lib.hid hce
        clear hc0 hce HALL HC0 HC9 HFN HFY
        have PN := Lib.hid (show p1 = none → c1 = 0 from fun e => by
          subst e
          rcases O1.out.2 with ⟨e, _⟩ | ⟨g, cap', cur, e, _⟩
          · injection e
          · injection e with e1; cases e1)
        have hw1 := B1.out.size
        rcases a with _ | ad
        · obtain rfl : cap = 0 := HNIL.out rfl
          obtain rfl : l = [] := by
            rcases HH.out.cells with h | ⟨b, off, e, _⟩
            · exact h
            · cases e
          go_wp2_with (first
            | (at_builtin; refine wpList_append_own _ rfl _ _ 22 rfl w1.heap.size 32 i0 (.agg #[.string ⟨#[]⟩, .slice none 0 0]) 2 40 Try.underlying22 I0.out Z0.out Z1.out Z2.out rfl (by decide) _ 0 (cellsE []) rfl (O2.out.alloc _) ⟨w2.heap.size, 0, none⟩ 1 1 [.string id, .slice p1 P.length c1] rfl rfl (World.news_of_block (cs := #[.string id, .slice p1 P.length c1]) (heap_alloc_new w2 _)) (by intro u hu; simp only [List.mem_cons, List.not_mem_nil, or_false] at hu; rcases hu with rfl | rfl <;> rfl) (by unfold maxLen; omega) (by omega) (by have := B12.out.size; simp; omega) ?_; intro v3 w3 ho3 hg3 _; obtain ⟨p3, c3, rfl, _⟩ := rowS_form ho3; have O3 := Lib.hid ho3; have B23 := Lib.hid (last_below O2.out hg3 B12.out.size); have B3 := Lib.hid (B2.out.trans (B23.out.mono hw1)); clear ho3 hg3)
            | (at_builtin; refine wpList_append_own_none rfl _ _ 22 rfl w1.heap.size 32 i0 2 Try.underlying22 I0.out _ 0 [] rfl (empty_own (Nat.le_refl _)) rfl ?_; obtain ⟨w2, hw2⟩ : ∃ W, W = w1.alloc (.cells #[] 32) := ⟨_, rfl⟩; have O2 := Lib.hid (show w2.ownsRow w1.heap.size 32 2 (.slice (some ⟨w1.heap.size, 0, none⟩) 0 0) 0 (cellsE []) from by rw [hw2]; exact empty_own (Nat.le_refl _)); have B12 := Lib.hid (show Below w1.heap.size w1 w2 by rw [hw2]; exact (Below.refl _ _).alloc (Nat.le_refl _) _); have B2 := Lib.hid (B1.out.trans (B12.out.mono hw1)); rw [← hw2]; clear hw2))
          go_ret2
          have hown3 := O3.out
          rw [show cellsE [] ++ [Value.string id, .slice p1 P.length c1] = cellsE ([] ++ [⟨id, P, p1, c1⟩]) by rw [cellsE_append]; rfl] at hown3
          have hz1 := B1.out.size
          have hz2 := B12.out.size
          have hz3 := B23.out.size
          have hn3 := (ens_own (w := w3) (l := [] ++ [⟨id, P, p1, c1⟩]) hown3 (by simp; unfold maxLen; omega) (fun c hc => by
            rcases List.mem_append.1 hc with hc | hc
            · exact (HH.out.below B3.out).ok c hc
            · rw [List.mem_singleton.1 hc]
              exact ⟨HIZ.out, ⟨O1.out.at_.below (B12.out.trans B23.out), by show P.length ≤ maxLen; unfold maxLen; omega, HRZ.out⟩, PN.out⟩))
          have hens : ∀ W, EnsAt W none [] → (∀ g, w.heap.size ≤ g → g < w3.heap.size → W.heap[g]? = w3.heap[g]?) → EnsAt W p3 ([] ++ [⟨id, P, p1, c1⟩]) := fun W hW hk => by
            have h1 : W.ownsRow w1.heap.size 32 2 (.slice p3 _ c3) _ _ := own_kept hown3 (fun g hg => hk g (by have := (own_lt hown3 hg).2.1; omega) (own_lt hown3 hg).1)
            have h2 : OwnL W w.heap.size (.slice p1 P.length c1) P := own_kept O1.out (fun g hg => (hk g (own_lt O1.out hg).2.1 (by have := (own_lt O1.out hg).1; omega)).trans ((B23.out.block g (own_lt O1.out hg).1).trans (B12.out.block g (own_lt O1.out hg).1)))
            exact (ens_own h1 (by simp; unfold maxLen; omega) (fun c hc => by
              rcases List.mem_append.1 hc with hc | hc
              · exact hW.ok c hc
              · rw [List.mem_singleton.1 hc]
                exact ⟨HIZ.out, ⟨h2.at_, by show P.length ≤ maxLen; unfold maxLen; omega, HRZ.out⟩, PN.out⟩)).2.1
          have hc := HC.out
          refine ⟨p3, c3, [] ++ [⟨id, P, p1, c1⟩], by rw [hc, ← hn3.1]; rfl, hens, hn3.2.2, by rw [esEn_append, HCE.out]; rfl, B3.out⟩
        · have HOLD := Lib.hid (show ∀ W, Below w.heap.size w W → ∀ j u, (cellsE l)[j]? = some u → W.cell? (ad.add j) = some u from fun W hW j u hu => by
            rcases HH.out.cells with h0 | ⟨b, off, e, hb, hc⟩
            · rw [h0] at hu; cases hu
            · cases e
              have h9 := ens_holds hc j u hu
              rw [Go.WideShapes.add_plain] at h9 ⊢
              exact (hW.cell (p := ⟨b, off + j, none⟩) hb).trans h9)
          have HBA := Lib.hid (fun o => B1.out.alloc hw1 o)
          go_wp2_with (first
            | (at_builtin; refine wpList_append_own _ rfl _ _ 22 rfl w1.heap.size 32 i0 (.agg #[.string ⟨#[]⟩, .slice none 0 0]) 2 40 Try.underlying22 I0.out Z0.out Z1.out Z2.out rfl (by decide) _ l.length (cellsE l) rfl (O2.out.alloc _) ⟨w2.heap.size, 0, none⟩ 1 1 [.string id, .slice p1 P.length c1] rfl rfl (World.news_of_block (cs := #[.string id, .slice p1 P.length c1]) (heap_alloc_new w2 _)) (by intro u hu; simp only [List.mem_cons, List.not_mem_nil, or_false] at hu; rcases hu with rfl | rfl <;> rfl) (by unfold maxLen; omega) (by omega) (by have := B12.out.size; simp; omega) ?_; intro v3 w3 ho3 hg3 _; obtain ⟨p3, c3, rfl, _⟩ := rowS_form ho3; have O3 := Lib.hid ho3; have B23 := Lib.hid (last_below O2.out hg3 B12.out.size); have B3 := Lib.hid (B2.out.trans (B23.out.mono hw1)); clear ho3 hg3)
            | (at_builtin; refine wpList_append_own _ rfl _ _ 22 rfl w1.heap.size 32 i0 (.agg #[.string ⟨#[]⟩, .slice none 0 0]) 2 40 Try.underlying22 I0.out Z0.out Z1.out Z2.out rfl (by decide) _ 0 [] rfl (empty_own (Nat.le_refl _)) ad l.length cap (cellsE l) rfl (cellsE_length l) (HOLD.out _ (HBA.out _)) (cellsE_one l) (by unfold maxLen; omega) (by omega) (by simp) ?_; intro v2 w2 ho2 hg2 _; have O2 := Lib.hid (show w2.ownsRow w1.heap.size 32 2 v2 l.length (cellsE l) by simpa using ho2); have B12 := Lib.hid (empty_below hg2); have B2 := Lib.hid (B1.out.trans (B12.out.mono hw1)); clear ho2 hg2))
          go_ret2
          have hown3 := O3.out
          rw [show cellsE l ++ [Value.string id, .slice p1 P.length c1] = cellsE (l ++ [⟨id, P, p1, c1⟩]) by rw [cellsE_append]; rfl] at hown3
          have hz1 := B1.out.size
          have hz2 := B12.out.size
          have hz3 := B23.out.size
          have hn3 := (ens_own (w := w3) (l := l ++ [⟨id, P, p1, c1⟩]) hown3 (by simp; unfold maxLen; omega) (fun c hc => by
            rcases List.mem_append.1 hc with hc | hc
            · exact (HH.out.below B3.out).ok c hc
            · rw [List.mem_singleton.1 hc]
              exact ⟨HIZ.out, ⟨O1.out.at_.below (B12.out.trans B23.out), by show P.length ≤ maxLen; unfold maxLen; omega, HRZ.out⟩, PN.out⟩))
          have hens : ∀ W, EnsAt W (some ad) l → (∀ g, w.heap.size ≤ g → g < w3.heap.size → W.heap[g]? = w3.heap[g]?) → EnsAt W p3 (l ++ [⟨id, P, p1, c1⟩]) := fun W hW hk => by
            have h1 : W.ownsRow w1.heap.size 32 2 (.slice p3 _ c3) _ _ := own_kept hown3 (fun g hg => hk g (by have := (own_lt hown3 hg).2.1; omega) (own_lt hown3 hg).1)
            have h2 : OwnL W w.heap.size (.slice p1 P.length c1) P := own_kept O1.out (fun g hg => (hk g (own_lt O1.out hg).2.1 (by have := (own_lt O1.out hg).1; omega)).trans ((B23.out.block g (own_lt O1.out hg).1).trans (B12.out.block g (own_lt O1.out hg).1)))
            exact (ens_own h1 (by simp; unfold maxLen; omega) (fun c hc => by
              rcases List.mem_append.1 hc with hc | hc
              · exact hW.ok c hc
              · rw [List.mem_singleton.1 hc]
                exact ⟨HIZ.out, ⟨h2.at_, by show P.length ≤ maxLen; unfold maxLen; omega, HRZ.out⟩, PN.out⟩)).2.1
          have hc := HC.out
          refine ⟨p3, c3, l ++ [⟨id, P, p1, c1⟩], by rw [hc, ← hn3.1]; rfl, hens, hn3.2.2, by rw [esEn_append, HCE.out]; rfl, B3.out⟩
end Go.Proofs.Ytabongfoeoideaa
namespace Go.Pal
open Go.RowKit
set_option linter.unusedVariables false
/-- What is in, and whose parents are in. -/
structure Clo (es : List (ByteArray × List ByteArray)) (id : ByteArray) (out : List ByteArray) (k : Nat) : Prop where
  good : GoodL es out
  par : ∀ p ∈ parE es id, p ∈ out
  cl : ∀ y ∈ out.take k, ∀ p ∈ parE es y, p ∈ out
  ahd : ∀ x ∈ out, Ahd es id x
theorem clo_end {es : List (ByteArray × List ByteArray)} (hok : DagOk es) {id : ByteArray} {out : List ByteArray} (h : Clo es id out out.length) : riseL out = riseL (pastL es id) := by
  refine rising_unique (rise_rising _) (rise_rising _) fun x => ?_
  rw [mem_rise, mem_rise, mem_past hok]
  refine ⟨h.ahd x, fun ha => ?_⟩
  have hcl := h.cl
  rw [List.take_length] at hcl
  induction ha with
  | one h1 => exact h.par _ h1
  | more _ h1 ih => exact hcl _ ih _ h1
theorem ahd_mem_there {es : List (ByteArray × List ByteArray)} (hok : DagOk es) {id x : ByteArray} (h : Ahd es id x) : (lookE es x).isSome = true := by
  cases h with
  | one h => exact (hok.there h).1
  | more _ h => exact (hok.there h).1
/-- Append to a row of one's own what may be nil. -/
theorem wpList_append_opt {P : Program} (w : World) {ops : Array Oper} {rest : List Oper} {o : Oper} {a : Act} {Q : Exit → Act → World → Prop} (hgd : o.guard = none) (s x : Operand) (t : TypeId)
    (ho : o.op = .call { callee := .builtin .append, args := #[s, x], argTypes := #[t, t] })
    (base : Nat) (e : TypeId) (i : TypeInfo) (z : Value) (size bytes : Nat) (ht : P.underlying t = some (.slice e)) (hi : P.info? e = some i) (hz : i.zero = some z)
    (hsize : i.size = size) (hby : i.bytes = bytes) (hzs : z.cells.size = size) (hsz : 0 < size)
    (v : Value) (n : Nat) (xs : List Value) (hs : a.eval s = v) (hown : w.ownsRow base e size v n xs)
    (p : Option Addr) (m c : Nat) (news : List Value) (hx : a.eval x = .slice p m c) (hl : news.length = m * size) (hnews : ∀ ad, p = some ad → ∀ j u, news[j]? = some u → w.cell? (ad.add j) = some u) (h1 : ∀ u ∈ news, u.oneCell' = true) (hnil : p = none → m = 0 ∧ c = 0)
    (h63 : n + m ≤ maxLen) (hbytes : (n + m) * bytes ≤ 140737488355328) (hbase : base ≤ w.heap.size)
    (h : ∀ v' w', w'.ownsRow base e size v' (n + m) (xs ++ news) → w.grownBy w' v.ownBlock → wpList P ops Q rest (a.put o.dst v') w') : wpList P ops Q (o :: rest) a w := by
  cases p with
  | none =>
    obtain ⟨rfl, rfl⟩ := hnil rfl
    have hn : news = [] := List.eq_nil_of_length_eq_zero (by omega)
    subst hn
    exact wpList_append_own_none hgd s x t ho base e i size ht hi v n xs hs hown hx (h v w (by simpa using hown) ⟨rfl, rfl, rfl, Nat.le_refl _, fun _ _ _ => rfl⟩)
  | some ad => exact wpList_append_own w hgd s x t ho base e i z size bytes ht hi hz hsize hby hzs hsz v n xs hs hown ad m c news hx hl (hnews ad rfl) h1 h63 hbytes hbase fun v' w' h2 h3 _ => h v' w' h2 h3
end Go.Pal
namespace Go.Proofs.Ytabongfoeoideaa
open Go.RowKit Go.Pal Go.Shelf
set_option linter.unusedVariables false
theorem empty_ownS {w1 : World} {base : Nat} (h : base ≤ w1.heap.size) : (w1.alloc (.cells #[] 9)).ownsRow base 9 1 (.slice (some ⟨w1.heap.size, 0, none⟩) 0 0) 0 [] := ⟨rfl, .inr ⟨w1.heap.size, 0, #[], rfl, h, heap_alloc_new _ _, Nat.le_refl _, Nat.zero_le _, rfl, rfl⟩⟩
theorem str_holds {w : World} {ad : Addr} {M : List ByteArray} (h : StrRow w (some ad) M) {W : World} (hb : Below w.heap.size w W) : ∀ j u, (M.map Value.string)[j]? = some u → W.cell? (ad.add j) = some u := fun j u hu => by
  have hj := (List.getElem?_eq_some_iff.1 hu).1
  rw [List.length_map] at hj
  obtain ⟨b, off, e, hbl, hc⟩ := sRow_some h (by omega)
  cases e
  rw [Go.WideShapes.add_plain]
  rw [(hb.cell (p := ⟨b, off + j, none⟩) hbl), hc j hj, ← hu, List.getElem?_map, List.getElem?_eq_getElem hj]; rfl
theorem str_none {w : World} {M : List ByteArray} (h : StrRow w none M) : M.length = 0 := by
  rcases h with h | ⟨b, o, e, _⟩
  · rw [h]; rfl
  · cases e
theorem one_strs (M : List ByteArray) : ∀ u ∈ M.map Value.string, u.oneCell' = true := by intro u hu; obtain ⟨s, _, rfl⟩ := List.mem_map.1 hu; rfl
set_option maxHeartbeats 2000000 in
set_option maxRecDepth 100000 in
theorem rpast_any {w : World} {a : Option Addr} {cap : Nat} {l : List En} (h : EnsAt w a l) (hok : DagOk (esEn l)) (id : ByteArray) :
    Calls Try.prog 22 #[.slice a l.length cap, .string id] w fun e w' => ∃ v, e = .returned v ∧ OwnL w' w.heap.size v (riseL (pastL (esEn l) id)) ∧ Below w.heap.size w w' := by
  have HPA := Lib.hid (fun W (hW : Below w.heap.size w W) s => rparents_any (cap := cap) h hW s)
  have HOK := Lib.hid hok
  obtain ⟨i0, hi0, hz0, hz1, hz2⟩ := info_parts (show (Try.prog.info? 9).map (fun i => (i.zero, i.size, i.bytes)) = some (some (.string ⟨#[]⟩), 1, 16) by kernel_rfl)
  have I0 := Lib.hid hi0
  have Z0 := Lib.hid hz0
  have Z1 := Lib.hid hz1
  have Z2 := Lib.hid hz2
  have hel : (esEn l).length ≤ 300 := hok.len
  have HEND := Lib.hid (fun out (hc : Clo (esEn l) id out out.length) => clo_end hok hc)
  have hid := fun p (hp : p ∈ parE (esEn l) id) => hok.there hp
  have HM0 := Lib.hid (show Clo (esEn l) id (parE (esEn l) id) 0 from ⟨⟨parE_nodup hok id, fun x hx => (hid x hx).1⟩, fun p hp => hp, fun y hy => by simp at hy, fun x hx => .one hx⟩)
  clear h hok hi0 hz0 hz1 hz2 hid
  generalize esEn l = es at *
  have HML := Lib.hid (Nat.le_trans HM0.out.good.len hel)
  go_enter Try.func22, Try.ntmps22
  go_wp2_with (first
    | (go_at_call 20; refine (HPA.out w (Below.refl _ _) _).mono ?_; rintro e w' ⟨⟨p1, c1, rfl, hr1, hn1⟩, e9⟩; rw [e9]; clear e9 w'; have HR1 := Lib.hid hr1; have HN1 := Lib.hid hn1; clear hr1 hn1)
    | (at_builtin; refine wpList_append_opt _ rfl _ _ 30 rfl w.heap.size 9 i0 (.string ⟨#[]⟩) 1 16 Try.underlying30 I0.out Z0.out Z1.out Z2.out rfl (by decide) _ 0 [] rfl (empty_ownS (Nat.le_refl _)) p1 (parE es id).length c1 ((parE es id).map Value.string) rfl (by simp) (fun ad e => str_holds (e ▸ HR1.out) ((Below.refl w.heap.size w).alloc (Nat.le_refl _) _)) (one_strs _) (fun e => ⟨str_none (e ▸ HR1.out), HN1.out e⟩) (by have := HML.out; unfold maxLen; omega) (by have := HML.out; omega) (by simp) ?_; intro v2 w2 ho2 hg2; obtain ⟨p2, c2, rfl, _⟩ := rowS_form ho2; have O2 := Lib.hid (show w2.ownsRow w.heap.size 9 1 (.slice p2 (0 + (parE es id).length) c2) (parE es id).length ((parE es id).map Value.string) by simpa using ho2); have B2 := Lib.hid (empty_below hg2); clear ho2 hg2))
  rw [Nat.zero_add] at *
  have HRL := Lib.hid (show ∀ out, GoodL es out → out.length ≤ 300 from fun out hg => Nat.le_trans hg.len hel)
  go_loopw [5, 6] (fun v5 j wr => ∃ out k, k ≤ (out : List ByteArray).length ∧ j = .int .i64 (k : Nat) ∧ OwnL wr w.heap.size v5 out ∧ Clo es id out k ∧ Below w.heap.size w wr) (fun _ j _ => 300 - (intOf j).toNat)
  case atStart => exact ⟨_, 0, Nat.zero_le _, rfl, O2.out, HM0.out, B2.out⟩
  case round =>
    obtain ⟨out, k, hk, rfl, ho, hc, hb⟩ := hrel
    have HO := Lib.hid ho
    have HC := Lib.hid hc
    have HB := Lib.hid hb
    have hol := HRL.out out hc.good
    by_cases hlt : k < out.length
    · obtain ⟨p5, c5, rfl, _⟩ := ho.form
      obtain ⟨g, rfl, hg, hcell⟩ := row_cell12 ho (by omega)
      have ck := hcell k hlt
      have HTK := Lib.hid (List.take_succ_eq_append_getElem hlt)
      have hxm := List.getElem_mem hlt
      have hxa := hc.ahd _ hxm
      have HPX := Lib.hid (fun p (hp : p ∈ parE es out[k]) => show Ahd es id p from .more hxa hp)
      have HPS := Lib.hid (HPA.out wr hb (out[k]))
      have hlm := Nat.le_trans (GoodL.len (es := es) ⟨parE_nodup HOK.out out[k], fun x hx => (HOK.out.there hx).1⟩) hel
      have k1 : (k : Int) < (out.length : Int) := by omega
      have k0 : (0 : Int) ≤ (k : Int) := by omega
      clear ho hc hb hcell hxm hxa
      obtain ⟨x, hx⟩ : ∃ x, x = out[k] := ⟨_, rfl⟩
      rw [← hx] at ck HTK HPX HPS hlm
      obtain ⟨M, hM⟩ : ∃ M, M = parE es x := ⟨_, rfl⟩
      rw [← hM] at HPX HPS hlm
      have HXM := Lib.hid hM
      clear hx hM
      go_wp2_with (go_at_call 20; refine HPS.out.mono ?_; rintro e w' ⟨⟨p3, c3, rfl, hr3, hn3⟩, e9⟩; rw [e9]; clear e9 w'; have HR3 := Lib.hid hr3; clear hr3 hn3)
      rename World => wi0
      go_loopw [5, 8] (fun v5 j wi => ∃ (o2 : List ByteArray) (i : Nat), i ≤ M.length ∧ j = .int .i64 (i : Nat) ∧ OwnL wi w.heap.size v5 o2 ∧ GoodL es o2 ∧ (∃ m, o2 = out ++ m) ∧ (∀ x ∈ o2, Ahd es id x) ∧ (∀ p ∈ M.take i, p ∈ o2) ∧ Below w.heap.size w wi) (fun _ j _ => M.length - (intOf j).toNat)
      case atStart => exact ⟨out, 0, Nat.zero_le _, rfl, HO.out, HC.out.good, ⟨[], by simp⟩, HC.out.ahd, fun p hp => by simp at hp, HB.out⟩
      case round =>
        obtain ⟨o2, i, hi, rfl, ho, hgo, hex, hah, htk, hbi⟩ := hrel
        have HO2 := Lib.hid ho
        have HG2 := Lib.hid hgo
        have HE2 := Lib.hid hex
        have HA2 := Lib.hid hah
        have HT2 := Lib.hid htk
        have HBI := Lib.hid hbi
        have ho2l := HRL.out o2 hgo
        obtain ⟨p6, c6, rfl, hr6⟩ := ho.form
        by_cases hil : i < M.length
        · obtain ⟨b, off, rfl, hbl, hcell⟩ := sRow_some HR3.out (by omega)
          have ci := (hbi.cell (p := ⟨b, off + i, none⟩) hbl).trans (hcell i hil)
          have HTI := Lib.hid (List.take_succ_eq_append_getElem hil)
          have HMI := Lib.hid (HPX.out _ (List.getElem_mem hil))
          have HMT := Lib.hid (show (lookE es M[i]).isSome = true from ahd_mem_there HOK.out HMI.out)
          have HH := Lib.hid (rhas_any (cap := c6) hr6 (by unfold maxLen; omega) M[i])
          have i1 : (i : Int) < (M.length : Int) := by omega
          have i00 : (0 : Int) ≤ (i : Int) := by omega
          clear ho hgo hex hah htk hbi hcell hr6
          generalize M[i] = y at *
          cases hm : memB o2 y with
          | true =>
            rw [hm] at HH
            have HIN := Lib.hid (memB_iff.1 hm)
            clear hm
            go_wp2_with (go_at_call 28; refine HH.out.mono ?_; rintro e w' ⟨rfl, e9⟩; rw [e9]; clear e9 w')
            go_roundw
            case rel => exact ⟨o2, i + 1, by omega, by go_num, HO2.out, HG2.out, HE2.out, HA2.out, fun p hp => by
              rw [HTI.out] at hp
              rcases List.mem_append.1 hp with hp | hp
              · exact HT2.out p hp
              · rw [List.mem_singleton.1 hp]; exact HIN.out, HBI.out⟩
            case measure => simp [intOf]; omega
          | false =>
            rw [hm] at HH
            have HIN := Lib.hid (memF.1 hm)
            have H1 := Lib.hid (show o2.length + 1 ≤ maxLen by unfold maxLen; omega)
            have H2 := Lib.hid (show (o2.length + 1) * 16 ≤ 140737488355328 by omega)
            have hws := HBI.out.size
            clear hm
            go_wp2_with (first
              | (go_at_call 28; refine HH.out.mono ?_; rintro e w' ⟨rfl, e9⟩; rw [e9]; clear e9 w')
              | (at_builtin; refine wpList_append_own _ rfl _ _ 30 rfl w.heap.size 9 i0 (.string ⟨#[]⟩) 1 16 Try.underlying30 I0.out Z0.out Z1.out Z2.out rfl (by decide) _ o2.length (o2.map Value.string) rfl (HO2.out.alloc _) ⟨wr.heap.size, 0, none⟩ 1 1 [.string y] rfl rfl (one_new wr 9 y) (one_str1 y) H1.out H2.out (by simp; omega) ?_; intro v9 w9 ho9 hg9 _; have O9 := Lib.hid (show OwnL w9 w.heap.size v9 (o2 ++ [y]) by unfold OwnL; simpa using ho9); have B9 := Lib.hid (HBI.out.grown ((World.grownBy_alloc wr _ _).trans hg9) hws (fun j hj => (own_lt HO2.out hj).2.1)); clear ho9 hg9))
            go_roundw
            case rel =>
              refine ⟨o2 ++ [y], i + 1, by omega, by go_num, O9.out, ⟨List.nodup_append.2 ⟨HG2.out.1, by simp, fun a1 ha c hc => by rw [List.mem_singleton.1 hc]; exact fun e => HIN.out (e ▸ ha)⟩, fun z hz => ?_⟩, ?_, fun z hz => ?_, fun p hp => ?_, B9.out⟩
              · rcases List.mem_append.1 hz with hz | hz
                · exact HG2.out.2 z hz
                · rw [List.mem_singleton.1 hz]; exact HMT.out
              · obtain ⟨m, hm⟩ := HE2.out
                exact ⟨m ++ [y], by rw [hm, List.append_assoc]⟩
              · rcases List.mem_append.1 hz with hz | hz
                · exact HA2.out z hz
                · rw [List.mem_singleton.1 hz]; exact HMI.out
              · rw [HTI.out] at hp
                rcases List.mem_append.1 hp with hp | hp
                · exact List.mem_append_left _ (HT2.out p hp)
                · exact List.mem_append_right _ hp
            case measure => simp [intOf]; omega
        · obtain rfl : i = M.length := by omega
          clear ho hgo hex hah htk hbi hr6
          go_wp2
          go_roundw
          case rel =>
            obtain ⟨m, hm⟩ := HE2.out
            have hsub : ∀ z ∈ out, z ∈ o2 := fun z hz => by rw [hm]; exact List.mem_append_left _ hz
            refine ⟨o2, k + 1, by rw [hm]; simp; omega, by go_num, HO2.out, ⟨HG2.out, fun p hp => hsub _ (HC.out.par p hp), fun y hy p hp => ?_, HA2.out⟩, HBI.out⟩
            rw [hm, List.take_append_of_le_length (by omega), HTK.out] at hy
            rcases List.mem_append.1 hy with hy | hy
            · exact hsub _ (HC.out.cl y hy p hp)
            · rw [List.mem_singleton.1 hy, ← HXM.out] at hp
              exact HT2.out p (by rw [List.take_length]; exact hp)
          case measure => simp [intOf]; omega
    · obtain rfl : k = out.length := by omega
      obtain ⟨p5, c5, rfl, hr5⟩ := ho.form
      have HS := Lib.hid (rsorted_any (cap := c5) hr5 (by omega))
      clear ho hc hb hr5
      go_wp2_with (go_at_call 31; refine HS.out.mono ?_; rintro e w9 ⟨v9, rfl, o9, b9⟩; obtain ⟨p9, c9, rfl, _⟩ := rowS_form o9; have O9 := Lib.hid o9; have B9 := Lib.hid b9; clear o9 b9)
      go_ret
      rw [← HEND.out out HC.out]
      exact ⟨_, rfl, own_base O9.out HB.out.size, HB.out.trans (B9.out.mono HB.out.size)⟩
end Go.Proofs.Ytabongfoeoideaa
namespace Go.Pal
open Go.RowKit
set_option linter.unusedVariables false
def freeE (es : List (ByteArray × List ByteArray)) (x : ByteArray) : Bool := es.all (fun e => !memB e.2 x)
def headG (es : List (ByteArray × List ByteArray)) (k : Nat) : List ByteArray := ((es.take k).map Prod.fst).filter (freeE es)
theorem head_take (es : List (ByteArray × List ByteArray)) {k : Nat} (hk : k < es.length) : headG es (k + 1) = if freeE es es[k].1 then headG es k ++ [es[k].1] else headG es k := by
  unfold headG
  rw [List.take_succ_eq_append_getElem hk, List.map_append, List.filter_append]
  cases h : freeE es es[k].1 <;> simp [h]
theorem headG_len (es : List (ByteArray × List ByteArray)) (k : Nat) : (headG es k).length ≤ es.length := by
  unfold headG
  refine Nat.le_trans (List.length_filter_le _ _) ?_
  simp; omega
theorem look_self {es : List (ByteArray × List ByteArray)} (hn : (es.map Prod.fst).Nodup) {e : ByteArray × List ByteArray} (he : e ∈ es) : parE es e.1 = e.2 := by
  unfold parE; rw [look_mem hn he]
theorem head_eq {es : List (ByteArray × List ByteArray)} (hn : (es.map Prod.fst).Nodup) : riseL (headG es es.length) = headsL es := by
  unfold headG headsL headE
  rw [List.take_length]
  congr 1
  refine List.filter_congr fun x _ => ?_
  unfold freeE
  rw [Bool.eq_iff_iff, List.all_eq_true, List.all_eq_true]
  constructor
  · intro h e he; rw [look_self hn he]; exact h e he
  · intro h e he; have := h e he; rwa [look_self hn he] at this
end Go.Pal
namespace Go.Proofs.Ytabongfoeoideaa
open Go.RowKit Go.Pal Go.Shelf
set_option linter.unusedVariables false
set_option maxHeartbeats 2000000 in
set_option maxRecDepth 100000 in
theorem rheads_any {w : World} {a : Option Addr} {cap : Nat} {l : List En} (h : EnsAt w a l) (hl : l.length ≤ 1000) (hn : ((esEn l).map Prod.fst).Nodup) :
    Calls Try.prog 24 #[.slice a l.length cap] w fun e w' => ∃ v, e = .returned v ∧ OwnL w' w.heap.size v (headsL (esEn l)) ∧ Below w.heap.size w w' := by
  obtain ⟨i0, hi0, hz0, hz1, hz2⟩ := info_parts (show (Try.prog.info? 9).map (fun i => (i.zero, i.size, i.bytes)) = some (some (.string ⟨#[]⟩), 1, 16) by kernel_rfl)
  have I0 := Lib.hid hi0
  have Z0 := Lib.hid hz0
  have Z1 := Lib.hid hz1
  have Z2 := Lib.hid hz2
  have HC := Lib.hid (fun k (hk : k < l.length) => cells_en (k := k) h hk)
  have HHA := Lib.hid (fun k (hk : k < l.length) s W (hW : Below w.heap.size w W) => rhas_any (cap := l[k].cap) ((h.ok _ (List.getElem_mem hk)).par.row.below hW) (h.ok _ (List.getElem_mem hk)).par.len s)
  have HPL := Lib.hid (fun k (hk : k < l.length) => (h.ok _ (List.getElem_mem hk)).par.len)
  have HEND := Lib.hid (show riseL (headG (esEn l) l.length) = headsL (esEn l) by rw [← esEn_len l]; exact head_eq hn)
  have HTK := Lib.hid (fun k (hk : k < l.length) => show headG (esEn l) (k + 1) = if freeE (esEn l) l[k].id then headG (esEn l) k ++ [l[k].id] else headG (esEn l) k from by
    have := head_take (esEn l) (k := k) (by rw [esEn_len]; exact hk)
    rw [esEn_get l k hk] at this; exact this)
  have HAT := Lib.hid (fun k (hk : k < l.length) x => show ((esEn l).take (k + 1)).all (fun e => !memB e.2 x) = (((esEn l).take k).all (fun e => !memB e.2 x) && !memB l[k].par x) from by
    rw [List.take_succ_eq_append_getElem (by rw [esEn_len]; exact hk), List.all_append, esEn_get l k hk]; simp [entOf])
  have HAL := Lib.hid (fun x => show ((esEn l).take l.length).all (fun e => !memB e.2 x) = freeE (esEn l) x from by rw [← esEn_len l, List.take_length]; rfl)
  have HLEN := Lib.hid (fun k => show (headG (esEn l) k).length ≤ 1000 from Nat.le_trans (headG_len _ _) (by rw [esEn_len]; exact hl))
  clear h hn hi0 hz0 hz1 hz2
  generalize esEn l = es at *
  go_enter Try.func24, Try.ntmps24
  go_wp2
  go_loopw [3, 4] (fun v3 j wr => ∃ k : Nat, k ≤ l.length ∧ j = .int .i64 k ∧ OwnL wr w.heap.size v3 (headG es k) ∧ Below w.heap.size w wr) (fun _ j _ => l.length - (intOf j).toNat)
  case atStart => exact ⟨0, Nat.zero_le _, rfl, World.ownsRow_nil _ _ _ _, Below.refl _ _⟩
  case round =>
    obtain ⟨k, hk, rfl, ho, hb⟩ := hrel
    obtain ⟨p3, c3, rfl, hr3⟩ := ho.form
    have HO := Lib.hid ho
    have HB := Lib.hid hb
    by_cases hlt : k < l.length
    · obtain ⟨b, off, rfl, hbl, ck0, _⟩ := HC.out k hlt
      have HTKK := Lib.hid (HTK.out k hlt)
      obtain ⟨x, hx⟩ : ∃ x, x = l[k].id := ⟨_, rfl⟩
      rw [← hx] at ck0 HTKK
      have HCK := Lib.hid ck0
      clear hx ho hb ck0 hr3
      have k1 : (k : Int) < (l.length : Int) := by omega
      have k0 : (0 : Int) ≤ (k : Int) := by omega
      go_wp2
      rename World => wi0
      go_loopw [5, 6] (fun v5 j wi => ∃ i : Nat, i ≤ l.length ∧ j = .int .i64 i ∧ v5 = .bool ((es.take i).all (fun e => !memB e.2 x)) ∧ OwnL wi w.heap.size (.slice p3 (headG es k).length c3) (headG es k) ∧ Below w.heap.size w wi) (fun _ j _ => l.length - (intOf j).toNat)
      case atStart => exact ⟨0, Nat.zero_le _, rfl, rfl, HO.out, HB.out⟩
      case round =>
        obtain ⟨i, hi, rfl, rfl, ho2, hb2⟩ := hrel
        have HO2 := Lib.hid ho2
        have HB2 := Lib.hid hb2
        by_cases hil : i < l.length
        · obtain ⟨b', off', e9, _, _, ci1⟩ := HC.out i hil
          obtain ⟨rfl, rfl⟩ : b' = b ∧ off' = off := by cases e9; exact ⟨rfl, rfl⟩
          have ci := (hb2.cell (p := ⟨b', off' + i * 2 + 1, none⟩) hbl).trans ci1
          have ck := (hb2.cell (p := ⟨b', off' + k * 2, none⟩) hbl).trans HCK.out
          have HH := Lib.hid (fun n => HHA.out i hil x (wr.drewN n) (below_drewN hb2 n))
          have HA := Lib.hid (HAT.out i hil x)
          have i1 : (i : Int) < (l.length : Int) := by omega
          have i00 : (0 : Int) ≤ (i : Int) := by omega
          clear ho2 hb2 e9 ci1
          generalize l[i].par = M at *
          generalize l[i].at_ = xat at *
          generalize l[i].cap = xcap at *
          generalize hq : (es.take i).all (fun e => !memB e.2 x) = q at *
          clear hq
          generalize memB M x = r at *
          cases q with
          | true =>
            go_wp2
            go_quiet ((go_at_call 28; exact Calls.quiet_of_same (HH.out _)))
            go_wp2
            go_roundw
            case rel => exact ⟨i + 1, by omega, by go_num, by rw [HA.out]; cases r <;> rfl, HO2.out, below_drewN HB2.out _⟩
            case measure => simp [intOf]; omega
          | false =>
            go_wp2
            go_quiet (fail)
            go_wp2
            go_roundw
            case rel => exact ⟨i + 1, by omega, by go_num, by rw [HA.out]; rfl, HO2.out, below_drewN HB2.out _⟩
            case measure => simp [intOf]; omega
        · obtain rfl : i = l.length := by omega
          rw [HAL.out]
          have hws := hb2.size
          have ck := (hb2.cell (p := ⟨b, off + k * 2, none⟩) hbl).trans HCK.out
          have hln := HLEN.out k
          have H1 := Lib.hid (show (headG es k).length + 1 ≤ maxLen by unfold maxLen; omega)
          have H2 := Lib.hid (show ((headG es k).length + 1) * 16 ≤ 140737488355328 by omega)
          clear ho2 hb2
          generalize hf : freeE es x = f at *
          clear hf
          generalize headG es k = out at *
          cases f with
          | true =>
            go_wp2_with (at_builtin; refine wpList_append_own _ rfl _ _ 30 rfl w.heap.size 9 i0 (.string ⟨#[]⟩) 1 16 Try.underlying30 I0.out Z0.out Z1.out Z2.out rfl (by decide) _ out.length (out.map Value.string) rfl (HO2.out.alloc _) ⟨wr.heap.size, 0, none⟩ 1 1 [.string x] rfl rfl (one_new wr 9 x) (one_str1 x) H1.out H2.out (by simp; omega) ?_; intro v9 w9 ho9 hg9 _; have O9 := Lib.hid (show OwnL w9 w.heap.size v9 (out ++ [x]) by unfold OwnL; simpa using ho9); have B9 := Lib.hid (HB2.out.grown ((World.grownBy_alloc wr _ _).trans hg9) hws (fun j hj => (own_lt HO2.out hj).2.1)); clear ho9 hg9)
            go_roundw
            case rel => exact ⟨k + 1, by omega, by go_num, by rw [HTKK.out]; exact O9.out, B9.out⟩
            case measure => simp [intOf]; omega
          | false =>
            go_wp2
            go_roundw
            case rel => exact ⟨k + 1, by omega, by go_num, by rw [HTKK.out]; exact HO2.out, HB2.out⟩
            case measure => simp [intOf]; omega
    · obtain rfl : k = l.length := by omega
      have HS := Lib.hid (rsorted_any (cap := c3) hr3 (by have := HLEN.out l.length; omega))
      clear ho hb hr3
      go_wp2_with (go_at_call 31; refine HS.out.mono ?_; rintro e w9 ⟨v9, rfl, o9, b9⟩; obtain ⟨p9, c9, rfl, _⟩ := rowS_form o9; have O9 := Lib.hid o9; have B9 := Lib.hid b9; clear o9 b9)
      go_ret
      rw [← HEND.out]
      exact ⟨_, rfl, own_base O9.out HB.out.size, HB.out.trans (B9.out.mono HB.out.size)⟩
end Go.Proofs.Ytabongfoeoideaa
namespace Go.Pal
open Go.RowKit Go.Pal.Dk
set_option linter.unusedVariables false
/-- May an entry be told? -/
def rdyB (T : List ByteArray) (e : ByteArray × List ByteArray) : Bool := !memB T e.1 && e.2.all (fun p => memB T p)
def NoE (es : List (ByteArray × List ByteArray)) : Prop := ∀ e ∈ es, e.1.size ≠ 0
/-- The least of those that may be told, among some; none: the empty text. -/
def BestOf (S : List (ByteArray × List ByteArray)) (T : List ByteArray) (b : ByteArray) : Prop :=
  (b = ⟨#[]⟩ ∧ ∀ e ∈ S, rdyB T e = false) ∨ (b ≠ ⟨#[]⟩ ∧ (∃ e ∈ S, e.1 = b ∧ rdyB T e = true) ∧ ∀ e ∈ S, rdyB T e = true → ¬ ltB e.1 b)
theorem best_nil (T : List ByteArray) : BestOf [] T ⟨#[]⟩ := .inl ⟨rfl, fun e he => by cases he⟩
theorem best_no {S : List (ByteArray × List ByteArray)} {T : List ByteArray} {b : ByteArray} {e : ByteArray × List ByteArray} (h : BestOf S T b) (he : rdyB T e = false) : BestOf (S ++ [e]) T b := by
  rcases h with ⟨h1, h2⟩ | ⟨h1, ⟨x, hx, hxb, hxr⟩, h3⟩
  · refine .inl ⟨h1, fun y hy => ?_⟩
    rcases List.mem_append.1 hy with hy | hy
    · exact h2 y hy
    · rw [List.mem_singleton.1 hy]; exact he
  · refine .inr ⟨h1, ⟨x, List.mem_append_left _ hx, hxb, hxr⟩, fun y hy hr => ?_⟩
    rcases List.mem_append.1 hy with hy | hy
    · exact h3 y hy hr
    · rw [List.mem_singleton.1 hy, he] at hr; cases hr
theorem best_first {S : List (ByteArray × List ByteArray)} {T : List ByteArray} {e : ByteArray × List ByteArray} (h : BestOf S T ⟨#[]⟩) (he : rdyB T e = true) (hn : e.1 ≠ ⟨#[]⟩) : BestOf (S ++ [e]) T e.1 := by
  rcases h with ⟨_, h2⟩ | ⟨h1, _⟩
  · refine .inr ⟨hn, ⟨e, by simp, rfl, he⟩, fun y hy hr => ?_⟩
    rcases List.mem_append.1 hy with hy | hy
    · rw [h2 y hy] at hr; cases hr
    · rw [List.mem_singleton.1 hy]; exact ltB_irrefl _
  · exact absurd rfl h1
theorem best_less {S : List (ByteArray × List ByteArray)} {T : List ByteArray} {b : ByteArray} {e : ByteArray × List ByteArray} (h : BestOf S T b) (hb : b ≠ ⟨#[]⟩) (he : rdyB T e = true) (hn : e.1 ≠ ⟨#[]⟩) (hl : ltB e.1 b) : BestOf (S ++ [e]) T e.1 := by
  rcases h with ⟨h1, _⟩ | ⟨h1, ⟨x, hx, hxb, hxr⟩, h3⟩
  · exact absurd h1 hb
  · refine .inr ⟨hn, ⟨e, by simp, rfl, he⟩, fun y hy hr => ?_⟩
    rcases List.mem_append.1 hy with hy | hy
    · exact fun hh => h3 y hy hr (ltB_trans hh hl)
    · rw [List.mem_singleton.1 hy]; exact ltB_irrefl _
theorem best_stay {S : List (ByteArray × List ByteArray)} {T : List ByteArray} {b : ByteArray} {e : ByteArray × List ByteArray} (h : BestOf S T b) (hb : b ≠ ⟨#[]⟩) (hl : ¬ ltB e.1 b) : BestOf (S ++ [e]) T b := by
  rcases h with ⟨h1, _⟩ | ⟨h1, ⟨x, hx, hxb, hxr⟩, h3⟩
  · exact absurd h1 hb
  · refine .inr ⟨h1, ⟨x, List.mem_append_left _ hx, hxb, hxr⟩, fun y hy hr => ?_⟩
    rcases List.mem_append.1 hy with hy | hy
    · exact h3 y hy hr
    · rw [List.mem_singleton.1 hy]; exact hl
theorem rdy_iff {es : List (ByteArray × List ByteArray)} (hn : (es.map Prod.fst).Nodup) {T : List ByteArray} {e : ByteArray × List ByteArray} (he : e ∈ es) : rdyB T e = true ↔ e.1 ∈ readyL es T := by
  rw [Go.Pal.mem_ready]
  unfold rdyB untoldN
  rw [look_self hn he]
  constructor
  · intro h
    rw [Bool.and_eq_true] at h
    refine ⟨lookE_isSome.2 (List.mem_map_of_mem he), fun hh => ?_, ?_⟩
    · rw [memB_iff.2 hh] at h; cases h.1
    · rw [List.filter_eq_nil_iff.2 (fun p hp => by rw [List.all_eq_true.1 h.2 p hp]; simp)]; rfl
  · rintro ⟨_, h2, h3⟩
    rw [memF.2 h2]
    have := List.filter_eq_nil_iff.1 (List.eq_nil_of_length_eq_zero h3)
    exact List.all_eq_true.2 fun p hp => by have := this p hp; simpa using this
theorem best_ready {es : List (ByteArray × List ByteArray)} (hn : (es.map Prod.fst).Nodup) {T : List ByteArray} {b : ByteArray} (h : BestOf es T b) : (b = ⟨#[]⟩ ∧ readyL es T = []) ∨ (b ≠ ⟨#[]⟩ ∧ ∃ r, readyL es T = b :: r) := by
  rcases h with ⟨h1, h2⟩ | ⟨h1, ⟨x, hx, hxb, hxr⟩, h3⟩
  · refine .inl ⟨h1, ?_⟩
    cases hr : readyL es T with
    | nil => rfl
    | cons a r =>
      exfalso
      have ha : a ∈ readyL es T := by rw [hr]; exact List.mem_cons_self
      obtain ⟨e, he, rfl⟩ := List.mem_map.1 (lookE_isSome.1 (Go.Pal.mem_ready.1 ha).1)
      have := (rdy_iff hn he).2 ha
      rw [h2 e he] at this; cases this
  · refine .inr ⟨h1, ?_⟩
    have hb : b ∈ readyL es T := hxb ▸ (rdy_iff hn hx).1 hxr
    have hri := ready_rising es T
    cases hr : readyL es T with
    | nil => rw [hr] at hb; cases hb
    | cons a r =>
      rw [hr] at hb hri
      rcases List.mem_cons.1 hb with rfl | hbr
      · exact ⟨r, rfl⟩
      · exfalso
        have hlt : ltB a b := (List.pairwise_cons.1 hri).1 b hbr
        have ha : a ∈ readyL es T := by rw [hr]; exact List.mem_cons_self
        obtain ⟨e, he, rfl⟩ := List.mem_map.1 (lookE_isSome.1 (Go.Pal.mem_ready.1 ha).1)
        exact h3 e he ((rdy_iff hn he).2 ha) hlt
theorem size_nz {b : ByteArray} (h : b ≠ ⟨#[]⟩) : b.size ≠ 0 := fun e => h (ByteArray.ext (Array.eq_empty_of_size_eq_zero e))
theorem not_nilB {s : ByteArray} (h : s.size ≠ 0) : s ≠ ⟨#[]⟩ := fun e => h (by rw [e]; rfl)
end Go.Pal
namespace Go.Proofs.Ytabongfoeoideaa
open Go.RowKit Go.Pal Go.Pal.Dk Go.Shelf
set_option linter.unusedVariables false
set_option maxHeartbeats 4000000 in
set_option maxRecDepth 100000 in
theorem rorder_any {w : World} {a : Option Addr} {cap : Nat} {l : List En} (h : EnsAt w a l) (hok : DagOk (esEn l)) (hn : ((esEn l).map Prod.fst).Nodup) (hne : NoE (esEn l)) :
    Calls Try.prog 26 #[.slice a l.length cap] w fun e w' => ∃ v, e = .returned v ∧ OwnL w' w.heap.size v (orderL (esEn l)) ∧ Below w.heap.size w w' := by
  obtain ⟨i0, hi0, hz0, hz1, hz2⟩ := info_parts (show (Try.prog.info? 9).map (fun i => (i.zero, i.size, i.bytes)) = some (some (.string ⟨#[]⟩), 1, 16) by kernel_rfl)
  have I0 := Lib.hid hi0
  have Z0 := Lib.hid hz0
  have Z1 := Lib.hid hz1
  have Z2 := Lib.hid hz2
  have HC := Lib.hid (fun k (hk : k < l.length) => cells_en (k := k) h hk)
  have HPR := Lib.hid (fun k (hk : k < l.length) => (h.ok _ (List.getElem_mem hk)).par.row)
  have HPL := Lib.hid (fun k (hk : k < l.length) => (h.ok _ (List.getElem_mem hk)).par.len)
  have hel : (esEn l).length = l.length := esEn_len l
  have hl3 : (esEn l).length ≤ 300 := hok.len
  have HRL := Lib.hid (show ∀ T, GoodL (esEn l) T → T.length ≤ 300 from fun T hg => Nat.le_trans hg.len hl3)
  have HNE := Lib.hid (fun k (hk : k < l.length) => show l[k].id ≠ ⟨#[]⟩ from not_nilB (by
    have := hne ((esEn l)[k]'(by rw [esEn_len]; exact hk)) (List.getElem_mem _)
    rw [esEn_get l k hk] at this; exact this))
  have HTK := Lib.hid (fun k (hk : k < l.length) => show (esEn l).take (k + 1) = (esEn l).take k ++ [entOf l[k].id l[k].par] from by
    rw [List.take_succ_eq_append_getElem (by rw [esEn_len]; exact hk), esEn_get l k hk])
  have HBR := Lib.hid (fun T b (hb : BestOf (esEn l) T b) => best_ready hn hb)
  have HTL := Lib.hid (show (esEn l).take l.length = esEn l by rw [← hel, List.take_length])
  have HEL := Lib.hid hel
  rw [hel] at hl3
  clear h hok hn hne hi0 hz0 hz1 hz2 hel
  generalize esEn l = es at *
  go_enter Try.func26, Try.ntmps26
  go_wp2
  go_loopw [3] (fun v3 wr => ∃ T : List ByteArray, OwnL wr w.heap.size v3 T ∧ GoodL es T ∧ orderGo es (es.length - T.length) T = orderL es ∧ Below w.heap.size w wr) (fun v3 _ => match v3 with | .slice _ n _ => l.length - n | _ => 0)
  case atStart => exact ⟨[], World.ownsRow_nil _ _ _ _, ⟨List.nodup_nil, fun x hx => by cases hx⟩, rfl, Below.refl _ _⟩
  case round =>
    obtain ⟨T, ho, hg, hgo, hb⟩ := hrel
    obtain ⟨p3, c3, rfl, hr3⟩ := ho.form
    have HO := Lib.hid ho
    have HG := Lib.hid hg
    have HGO := Lib.hid hgo
    have HB := Lib.hid hb
    have hT := HRL.out T hg
    clear ho hg hgo hb hr3
    by_cases hlt : T.length < l.length
    · have hlti : (T.length : Int) < (l.length : Int) := by omega
      go_wp2
      rename World => wi0
      go_loopw [4, 5] (fun v4 j wi => ∃ (i : Nat) (b : ByteArray), i ≤ l.length ∧ j = .int .i64 i ∧ v4 = .string b ∧ BestOf (es.take i) T b ∧ OwnL wi w.heap.size (.slice p3 T.length c3) T ∧ Below w.heap.size w wi) (fun _ j _ => l.length - (intOf j).toNat)
      case atStart => exact ⟨0, _, Nat.zero_le _, rfl, rfl, best_nil T, HO.out, HB.out⟩
      case round =>
        obtain ⟨i, b, hi, rfl, rfl, hbest, ho2, hb2⟩ := hrel
        have HO2 := Lib.hid ho2
        have HB2 := Lib.hid hb2
        have HBE := Lib.hid hbest
        have hr2 := ho2.at_
        by_cases hil : i < l.length
        · obtain ⟨b1, off, rfl, hbl, c0, c1⟩ := HC.out i hil
          have d0 := (hb2.cell (p := ⟨b1, off + i * 2, none⟩) hbl).trans c0
          have d1 := (hb2.cell (p := ⟨b1, off + i * 2 + 1, none⟩) hbl).trans c1
          have HR := Lib.hid (HPR.out i hil)
          have HTI := Lib.hid (HTK.out i hil)
          have hyn := HNE.out i hil
          have hml := HPL.out i hil
          unfold maxLen at hml
          have HHO := Lib.hid (fun s => rhas_any (cap := c3) hr2 (by unfold maxLen; omega) s)
          have i1 : (i : Int) < (l.length : Int) := by omega
          have i00 : (0 : Int) ≤ (i : Int) := by omega
          clear ho2 hbest c0 c1 hr2
          have HB3 := Lib.hid hb2
          clear hb2
          generalize l[i].id = y at *
          generalize l[i].par = M at *
          generalize l[i].at_ = xat at *
          generalize l[i].cap = xcap at *
          have HYN := Lib.hid hyn
          clear hyn
          go_wp2_with (go_at_call 28; refine (HHO.out _).mono ?_; rintro e w' ⟨rfl, e9⟩; rw [e9]; clear e9 w')
          go_loop [6, 7] (fun v6 j => ∃ k : Nat, k ≤ M.length ∧ j = .int .i64 k ∧ v6 = .bool (!memB T y && (M.take k).all (fun p => memB T p))) (fun _ j => M.length - (intOf j).toNat)
          case atStart => exact ⟨0, Nat.zero_le _, rfl, by simp⟩
          case round =>
            obtain ⟨k, hk, rfl, rfl⟩ := hrel
            by_cases hkl : k < M.length
            · obtain ⟨b2, o2, rfl, hbl2, hcell⟩ := sRow_some HR.out (by omega)
              have ck := (HB3.out.cell (p := ⟨b2, o2 + k, none⟩) hbl2).trans (hcell k hkl)
              have HTM := Lib.hid (show (M.take (k + 1)).all (fun p => memB T p) = ((M.take k).all (fun p => memB T p) && memB T M[k]) by rw [List.take_succ_eq_append_getElem hkl, List.all_append]; simp)
              have HHK := Lib.hid (HHO.out M[k])
              have k1 : (k : Int) < (M.length : Int) := by omega
              have k0 : (0 : Int) ≤ (k : Int) := by omega
              clear hcell
              generalize M[k] = z at *
              generalize hq : (M.take k).all (fun p => memB T p) = q at *
              clear hq
              generalize memB T z = r at *
              generalize hq2 : (!memB T y && q) = q2 at *
              have HQ2 := Lib.hid hq2
              clear hq2
              cases q2 with
              | true =>
                go_wp2_with (go_at_call 28; refine HHK.out.mono ?_; rintro e w' ⟨rfl, e9⟩; rw [e9]; clear e9 w')
                go_round
                case rel => exact ⟨k + 1, by omega, by go_num, by rw [HTM.out, ← Bool.and_assoc, HQ2.out]; rfl⟩
                case measure => simp [intOf]; omega
              | false =>
                go_wp2
                go_round
                case rel => exact ⟨k + 1, by omega, by go_num, by rw [HTM.out, ← Bool.and_assoc, HQ2.out]; rfl⟩
                case measure => simp [intOf]; omega
            · obtain rfl : k = M.length := by omega
              rw [List.take_length]
              have HRD := Lib.hid (show rdyB T (entOf y M) = (!memB T y && M.all (fun p => memB T p)) from rfl)
              generalize hrd : (!memB T y && M.all (fun p => memB T p)) = rd at *
              clear hrd
              have fin : ∀ b', BestOf (es.take i ++ [entOf y M]) T b' → ∃ (i' : Nat) (b : ByteArray), i' ≤ l.length ∧ Value.int .i64 ((i : Int) + 1) = .int .i64 i' ∧ Value.string b' = .string b ∧ BestOf (es.take i') T b ∧ OwnL wr w.heap.size (.slice p3 T.length c3) T ∧ Below w.heap.size w wr := fun b' hb' => ⟨i + 1, b', by omega, by go_num, rfl, by rw [HTI.out]; exact hb', HO2.out, HB2.out⟩
              have FIN := Lib.hid fin
              clear fin
              cases rd with
              | false =>
                have HN := Lib.hid (best_no HBE.out HRD.out)
                go_wp2
                go_roundw
                case rel => exact FIN.out _ HN.out
                case measure => simp [intOf]; omega
              | true =>
                by_cases hb0 : b = ⟨#[]⟩
                · subst hb0
                  have HN := Lib.hid (best_first HBE.out HRD.out HYN.out)
                  have heq := beqWT (a := (⟨#[]⟩ : ByteArray))
                  go_wp2
                  go_roundw
                  case rel => exact FIN.out _ HN.out
                  case measure => simp [intOf]; omega
                · obtain ⟨hb1, hb2e⟩ := not_empty (size_nz hb0)
                  have HB0 := Lib.hid hb0
                  clear hb0
                  by_cases hlt2 : ltB y b
                  · have HN := Lib.hid (best_less HBE.out HB0.out HRD.out HYN.out hlt2)
                    have hls := r_less hlt2
                    clear hlt2
                    go_wp2
                    go_roundw
                    case rel => exact FIN.out _ HN.out
                    case measure => simp [intOf]; omega
                  · have HN := Lib.hid (best_stay (e := entOf y M) HBE.out HB0.out hlt2)
                    have hls := r_not_less hlt2
                    clear hlt2
                    go_wp2
                    go_roundw
                    case rel => exact FIN.out _ HN.out
                    case measure => simp [intOf]; omega
        · obtain rfl : i = l.length := by omega
          have hbe := hbest
          rw [HTL.out] at hbe
          have hws := hb2.size
          rcases HBR.out T b hbe with ⟨rfl, hrn⟩ | ⟨hbn, r, hrr⟩
          · have HE := Lib.hid (show orderL es = T by rw [← HGO.out]; exact order_end hrn _)
            have heq := beqWT (a := (⟨#[]⟩ : ByteArray))
            clear ho2 hbest hbe hrn hb2 hr2
            go_wp2
            go_ret
            rw [HE.out]
            exact ⟨_, rfl, HO2.out, HB2.out⟩
          · have HR := Lib.hid hrr
            obtain ⟨hb1, hb2e⟩ := not_empty (size_nz hbn)
            have H1 := Lib.hid (show T.length + 1 ≤ maxLen by unfold maxLen; omega)
            have H2 := Lib.hid (show (T.length + 1) * 16 ≤ 140737488355328 by omega)
            have HGT := Lib.hid (told_step HG.out hrr)
            clear ho2 hbest hbe hrr hbn hb2 hr2
            go_wp2_with (at_builtin; refine wpList_append_own _ rfl _ _ 30 rfl w.heap.size 9 i0 (.string ⟨#[]⟩) 1 16 Try.underlying30 I0.out Z0.out Z1.out Z2.out rfl (by decide) _ T.length (T.map Value.string) rfl (HO2.out.alloc _) ⟨wr.heap.size, 0, none⟩ 1 1 [.string b] rfl rfl (one_new wr 9 b) (one_str1 b) H1.out H2.out (by simp; omega) ?_; intro v9 w9 ho9 hg9 _; obtain ⟨p9, c9, rfl, _⟩ := rowS_form ho9; have O9 := Lib.hid (show OwnL w9 w.heap.size (.slice p9 (T.length + 1) c9) (T ++ [b]) by unfold OwnL; simpa using ho9); have B9 := Lib.hid (HB2.out.grown ((World.grownBy_alloc wr _ _).trans hg9) hws (fun j hj => (own_lt HO2.out hj).2.1)); clear ho9 hg9)
            go_roundw
            case rel => exact ⟨T ++ [b], O9.out, HGT.out, by rw [← order_step HGT.out HR.out]; exact HGO.out, B9.out⟩
            case measure => show l.length - (T.length + 1) < l.length - T.length; omega
    · have hlti : ¬ ((T.length : Int) < (l.length : Int)) := by omega
      have HE := Lib.hid (show orderL es = T by
        have h1 := HGO.out
        rw [show es.length - T.length = 0 by rw [HEL.out]; omega] at h1
        rw [← h1]; rfl)
      go_wp2
      go_ret
      rw [HE.out]
      exact ⟨_, rfl, HO.out, HB.out⟩
end Go.Proofs.Ytabongfoeoideaa
namespace Go.Pal
open Go.RowKit
set_option linter.unusedVariables false
theorem noE_add {es : List (ByteArray × List ByteArray)} (h : NoE es) (id : ByteArray) (ps : List ByteArray) : NoE (addE es id ps) := by
  unfold addE
  split
  case isFalse => exact h
  case isTrue hc =>
    intro e he
    rcases List.mem_append.1 he with he | he
    · exact h e he
    · rw [List.mem_singleton.1 he]
      show id.size ≠ 0
      intro h0
      unfold addC at hc
      rw [if_pos (.inl h0)] at hc
      exact absurd hc (by decide)
theorem off_all {S T : Nat → Prop} {w w' : World} (h : Off T w w') (hs : ∀ g, g < w.heap.size → T g → S g) : Off S w w' := h.mono hs
end Go.Pal
namespace Go.Proofs.Ytabongfoeoideaa
open Go.RowKit Go.Pal Go.Shelf
set_option linter.unusedVariables false
/-- A row of entries that lies apart from a set of blocks. -/
def EnsOff (w : World) (S : Nat → Prop) (a : Option Addr) (l : List En) : Prop := ∀ W, Off S w W → EnsAt W a l
theorem EnsOff.at_ {w : World} {S : Nat → Prop} {a : Option Addr} {l : List En} (h : EnsOff w S a l) : EnsAt w a l := h w (Off.refl _ _)
theorem EnsOff.off {w w' : World} {S : Nat → Prop} {a : Option Addr} {l : List En} (h : EnsOff w S a l) (ho : Off S w w') : EnsOff w' S a l := fun W hW => h W (ho.trans hW (fun g _ hg => hg))
theorem EnsOff.new {w w' : World} {S : Nat → Prop} {a : Option Addr} {l : List En} (h : EnsOff w S a l) (hb : Below w.heap.size w w') : EnsOff w' S a l := h.off (Off.of_new hb S)
theorem EnsOff.mono {w : World} {S T : Nat → Prop} {a : Option Addr} {l : List En} (h : EnsOff w S a l) (hs : ∀ g, g < w.heap.size → T g → S g) : EnsOff w T a l := fun W hW => h W (hW.mono hs)
/-- The program's dag, and the document's list: the same entries, in blocks that are apart. -/
structure Two (w : World) (B G : Nat) (a : Option Addr) (cap : Nat) (l : List En) (es : List (ByteArray × List ByteArray)) : Prop where
  two : ∃ S : Nat → Prop, DStF w S G es ∧ EnsOff w S a l ∧ ∀ g, S g → B ≤ g
  ghost : esEn l = es
  noE : NoE es
  nil : a = none → cap = 0
theorem Two.dst {w : World} {B G : Nat} {a : Option Addr} {cap : Nat} {l : List En} {es : List (ByteArray × List ByteArray)} (h : Two w B G a cap l es) : DSt w 0 G es := by
  obtain ⟨S, h1, _⟩ := h.two
  exact h1.st
theorem Two.ens {w : World} {B G : Nat} {a : Option Addr} {cap : Nat} {l : List En} {es : List (ByteArray × List ByteArray)} (h : Two w B G a cap l es) : EnsAt w a l := by
  obtain ⟨S, _, h1, _⟩ := h.two
  exact h1.at_
theorem Two.new {w w' : World} {B G : Nat} {a : Option Addr} {cap : Nat} {l : List En} {es : List (ByteArray × List ByteArray)} (h : Two w B G a cap l es) (hb : Below w.heap.size w w') : Two w' B G a cap l es := by
  obtain ⟨S, h1, h2, h3⟩ := h.two
  exact ⟨⟨S, h1.new hb, h2.new hb, h3⟩, h.ghost, h.noE, h.nil⟩
theorem Two.len {w : World} {B G : Nat} {a : Option Addr} {cap : Nat} {l : List En} {es : List (ByteArray × List ByteArray)} (h : Two w B G a cap l es) : l.length = es.length ∧ es.length ≤ 300 := by
  have h1 := esEn_len l
  rw [h.ghost] at h1
  exact ⟨h1.symm, h.dst.ok.len⟩
theorem Two.start {w w' : World} (h : DSt w w'.heap.size w'.heap.size []) : Two w w'.heap.size w'.heap.size none 0 [] [] := by
  obtain ⟨m, mv, h1⟩ := h.at_
  refine ⟨⟨fun g => w'.heap.size ≤ g, ⟨⟨m, mv, h1.weak (Nat.zero_le _), fun g hg => (h1.lt hg).2⟩, h.ok⟩, fun W _ => ⟨Nat.zero_le _, fun c hc => (by cases hc), Or.inl rfl⟩, fun g hg => hg⟩, rfl, fun e he => (by cases he), fun _ => rfl⟩
/-- What came between: the document's list has one more, the dag not yet. -/
structure Half (w : World) (B G : Nat) (a : Option Addr) (cap : Nat) (l : List En) (es es' : List (ByteArray × List ByteArray)) : Prop where
  two : ∃ S : Nat → Prop, DStF w S G es ∧ EnsOff w S a l ∧ (∀ g, S g → B ≤ g) ∧ ∀ g, w.heap.size ≤ g → S g
  ghost : esEn l = es'
  noE : NoE es'
  nil : a = none → cap = 0
theorem two_radd {W wr : World} {B G : Nat} {a : Option Addr} {cap : Nat} {l : List En} {es : List (ByteArray × List ByteArray)} (h : Two wr B G a cap l es) {c : En} (hok : EnOk W c) (hp : c.par.length ≤ 60) (hb : Below W.heap.size W wr) (hB : B ≤ wr.heap.size) (wx : World) (hd : Drawn wr wx) :
    Calls Try.prog 13 #[.slice a l.length cap, .string c.id, .slice c.at_ c.par.length c.cap] wx fun e w' => ∃ a' cap' l', e = .returned (.tuple #[.slice a' l'.length cap', .int .i64 (addC es c.id c.par)]) ∧ Half w' B G a' cap' l' es (addE es c.id c.par) ∧ Below wr.heap.size wr w' := by
  have hs : wx.heap.size = wr.heap.size := by rw [hd.1]
  have hdb := hd.below wr.heap.size
  have hx := h.new hdb
  refine (radd_any hx.ens hx.nil (by have := h.len; omega) c.id (hok.par.row.below (hb.trans (hd.below _))) hp hok.par.size).mono ?_
  rintro e w' ⟨a', cap', l', rfl, h1, h2, h3, h4⟩
  rw [h.ghost] at h3 ⊢
  have hb4 : Below wr.heap.size wr w' := hdb.trans (h4.mono (by omega))
  obtain ⟨S, q1, q2, q3⟩ := h.two
  refine ⟨a', cap', l', rfl, ⟨⟨fun g => (S g ∧ g < wr.heap.size) ∨ w'.heap.size ≤ g, (q1.mono (fun g hg hS => Or.inl ⟨hS, hg⟩)).new hb4, fun W hW => ?_, fun g hg => ?_, fun g hg => .inr hg⟩, h3, noE_add h.noE _ _, h2⟩, hb4⟩
  · have hWr : Off S wr W := (Off.of_new hb4 S).trans hW (fun g hg hT => by
      rcases hT with hT | hT
      · exact hT.1
      · have := hb4.size; omega)
    refine h1 W (q2 W hWr) (fun g hg1 hg2 => hW.block g hg2 (fun hT => ?_))
    rcases hT with hT | hT <;> omega
  · rcases hg with hg | hg
    · exact q3 g hg.1
    · have := hb4.size; omega
theorem two_dadd {W wr : World} {B G : Nat} {a : Option Addr} {cap : Nat} {l : List En} {es : List (ByteArray × List ByteArray)} {c : En} (h : Half wr B G a cap l es (addE es c.id c.par)) (hok : EnOk W c) (hp : c.par.length ≤ 60) (hb : Below W.heap.size W wr) (hB : B ≤ wr.heap.size) (wx : World) (hd : Drawn wr wx) :
    Calls Try.prog 14 #[.pointer (some ⟨G, 0, none⟩), .string c.id, .slice c.at_ c.par.length c.cap] wx fun e w' => e = .returned (.int .i64 (addC es c.id c.par)) ∧ Two w' B G a cap l (addE es c.id c.par) ∧ Below B wr w' := by
  obtain ⟨S, q1, q2, q3, q4⟩ := h.two
  refine (fadd q1 q4 hok hp hb wx hd).mono ?_
  rintro e w' ⟨rfl, h1, h2⟩
  exact ⟨rfl, ⟨⟨S, h1, q2.off h2, q3⟩, h.ghost, h.noE, h.nil⟩, h2.below q3 hB⟩
/-- Not below zero, if so. -/
def Nn (n : Int) (q : Bool) : Prop := (0 : Int) ≤ n ↔ q = true
theorem Nn.yes {n : Int} (h : Nn n true) : (0 : Int) ≤ n := h.2 rfl
theorem Nn.no {n : Int} (h : Nn n false) : ¬ (0 : Int) ≤ n := fun hh => Bool.noConfusion (h.1 hh)
theorem two_find {w : World} {B G : Nat} {a : Option Addr} {cap : Nat} {l : List En} {es : List (ByteArray × List ByteArray)} (h : Two w B G a cap l es) (s : ByteArray) (q : Bool) (hq : (lookE es s).isSome = q) :
    Calls Try.prog 16 #[.slice a l.length cap, .string s] w fun e w' => (∃ n : Int, e = .returned (.int .i64 n) ∧ Nn n q) ∧ w' = w := by
  subst hq
  cases ht : (lookE es s).isSome with
  | true =>
    refine (rfind_yes h.ens (by rw [h.ghost]; exact ht)).mono ?_
    rintro e w' ⟨⟨i, hi, rfl, _⟩, rfl⟩
    exact ⟨⟨_, rfl, ⟨fun _ => rfl, fun _ => by omega⟩⟩, rfl⟩
  | false =>
    refine (rfind_no h.ens (by rw [h.ghost]; exact ht)).mono ?_
    rintro e w' ⟨rfl, rfl⟩
    exact ⟨⟨_, rfl, ⟨fun h => absurd h (by decide), fun h => by cases h⟩⟩, rfl⟩
theorem two_len {w : World} {B G : Nat} {a : Option Addr} {cap : Nat} {l : List En} {es : List (ByteArray × List ByteArray)} (h : Two w B G a cap l es) : Calls Try.prog 17 #[.pointer (some ⟨G, 0, none⟩)] w fun e w' => e = .returned (.int .i64 (l.length : Int)) ∧ w' = w := by
  have := slen h.dst
  rw [← h.len.1] at this; exact this
theorem two_par {w : World} {B G : Nat} {a : Option Addr} {cap : Nat} {l : List En} {es : List (ByteArray × List ByteArray)} (h : Two w B G a cap l es) (s : ByteArray) :
    Calls Try.prog 20 #[.slice a l.length cap, .string s] w fun e w' => (∃ p c, e = .returned (.slice p (parE es s).length c) ∧ StrRow w p (parE es s)) ∧ w' = w := by
  refine (rparents_any (cap := cap) h.ens (Below.refl _ _) s).mono ?_
  rintro e w' ⟨⟨p, c, rfl, h1, _⟩, rfl⟩
  rw [h.ghost] at h1 ⊢
  exact ⟨⟨p, c, rfl, h1⟩, rfl⟩
theorem two_past {w : World} {B G : Nat} {a : Option Addr} {cap : Nat} {l : List En} {es : List (ByteArray × List ByteArray)} (h : Two w B G a cap l es) (s : ByteArray) :
    Calls Try.prog 22 #[.slice a l.length cap, .string s] w fun e w' => ∃ v, e = .returned v ∧ OwnL w' w.heap.size v (riseL (pastL es s)) ∧ Below w.heap.size w w' := by
  have := rpast_any (cap := cap) h.ens (by rw [h.ghost]; exact h.dst.ok) s
  rw [h.ghost] at this; exact this
theorem two_heads {w : World} {B G : Nat} {a : Option Addr} {cap : Nat} {l : List En} {es : List (ByteArray × List ByteArray)} (h : Two w B G a cap l es) :
    Calls Try.prog 24 #[.slice a l.length cap] w fun e w' => ∃ v, e = .returned v ∧ OwnL w' w.heap.size v (headsL es) ∧ Below w.heap.size w w' := by
  have := rheads_any (cap := cap) h.ens (by have := h.len; omega) (by rw [h.ghost]; exact h.dst.ids)
  rw [h.ghost] at this; exact this
theorem two_order {w : World} {B G : Nat} {a : Option Addr} {cap : Nat} {l : List En} {es : List (ByteArray × List ByteArray)} (h : Two w B G a cap l es) :
    Calls Try.prog 26 #[.slice a l.length cap] w fun e w' => ∃ v, e = .returned v ∧ OwnL w' w.heap.size v (orderL es) ∧ Below w.heap.size w w' := by
  have := rorder_any (cap := cap) h.ens (by rw [h.ghost]; exact h.dst.ok) (by rw [h.ghost]; exact h.dst.ids) (by rw [h.ghost]; exact h.noE)
  rw [h.ghost] at this; exact this
theorem past_len {es : List (ByteArray × List ByteArray)} (h : DagOk es) (s : ByteArray) : (riseL (pastL es s)).length ≤ maxLen := by
  have := rise_le (pastL es s)
  have := (past_good h s).len
  have := h.len
  unfold maxLen; omega
theorem par_len {es : List (ByteArray × List ByteArray)} (h : DagOk es) (s : ByteArray) : (parE es s).length ≤ maxLen := by have := h.parLen s; unfold maxLen; omega
theorem heads_len {es : List (ByteArray × List ByteArray)} (h : DagOk es) : (headsL es).length ≤ maxLen := by
  have h1 : (headsL es).length ≤ es.length := by
    refine Nat.le_trans (rise_le _) ?_
    unfold headE
    refine Nat.le_trans (List.length_filter_le _ _) ?_
    simp
  have := h.len
  unfold maxLen; omega
theorem order_lenM {es : List (ByteArray × List ByteArray)} (h : DagOk es) : (orderL es).length ≤ maxLen := by
  have := (order_odr es).good.len
  have := h.len
  unfold maxLen; omega
end Go.Proofs.Ytabongfoeoideaa
