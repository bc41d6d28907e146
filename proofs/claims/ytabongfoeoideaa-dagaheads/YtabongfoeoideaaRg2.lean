/-
  The document's own of layer 12: Add.
-/
import Derived.Test.YtabongfoeoideaaRg1
import Derived.Test.YtabongfoeoideaaRf1
import Derived.Laws.AppendOwnNone
namespace Go.Proofs.Ytabongfoeoideaa
open Go.RowKit Go.Pal Go.Shelf
set_option linter.unusedVariables false
def cellsE : List En → List Value
  | [] => []
  | f :: r => f.cells ++ cellsE r
theorem cellsE_length : ∀ l : List En, (cellsE l).length = l.length * 2
  | [] => rfl
  | f :: r => by simp only [cellsE, En.cells, List.length_append, List.length_cons, List.length_nil, cellsE_length r]; omega
theorem cellsE_append : ∀ l m : List En, cellsE (l ++ m) = cellsE l ++ cellsE m
  | [], m => rfl
  | f :: r, m => by simp [cellsE, cellsE_append r m]
theorem cellsE_get : ∀ (l : List En) (i : Nat) (hi : i < l.length) (j : Nat), j < 2 → (cellsE l)[i * 2 + j]? = (l[i].cells)[j]?
  | f :: r, 0, _, j, hj => by
    simp only [cellsE, Nat.zero_mul, Nat.zero_add]
    rw [List.getElem?_append_left (by simp [En.cells]; omega)]; rfl
  | f :: r, i + 1, hi, j, hj => by
    simp only [cellsE]
    rw [List.getElem?_append_right (by simp [En.cells]; omega)]
    rw [show (i + 1) * 2 + j - f.cells.length = i * 2 + j by simp [En.cells]; omega]
    exact cellsE_get r i (by simpa using hi) j hj
theorem cellsE_one : ∀ (l : List En), ∀ u ∈ cellsE l, u.oneCell' = true
  | [], u, h => by cases h
  | f :: r, u, h => by
    rcases List.mem_append.1 h with h | h
    · simp only [En.cells, List.mem_cons, List.not_mem_nil, or_false] at h
      rcases h with rfl | rfl <;> rfl
    · exact cellsE_one r u h
theorem ens_holds {w : World} {b off : Nat} {l : List En} (h : ∀ i c, l[i]? = some c → ∀ j, j < 2 → w.cell? ⟨b, off + i * 2 + j, none⟩ = c.cells[j]?) : ∀ j u, (cellsE l)[j]? = some u → w.cell? ((⟨b, off, none⟩ : Addr).add j) = some u := fun j u hu => by
  have hj := (List.getElem?_eq_some_iff.1 hu).1
  rw [cellsE_length] at hj
  have hi : j / 2 < l.length := by omega
  rw [Go.WideShapes.add_plain]
  have e : j = j / 2 * 2 + j % 2 := by omega
  have h1 := h (j / 2) l[j / 2] (by simp [hi]) (j % 2) (by omega)
  rw [e, cellsE_get l (j / 2) hi (j % 2) (by omega)] at hu
  rw [show off + j = off + j / 2 * 2 + j % 2 by omega, h1, hu]
theorem ens_own {w : World} {base : Nat} {p : Option Addr} {n cap : Nat} {l : List En} (h : w.ownsRow base 32 2 (.slice p n cap) n (cellsE l)) (hl : l.length ≤ maxLen) (hok : ∀ c ∈ l, EnOk w c) : n = l.length ∧ EnsAt w p l ∧ (p = none → cap = 0) := by
  have hn : n = l.length := by have h1 := h.1; rw [cellsE_length] at h1; omega
  subst hn
  refine ⟨rfl, ⟨hl, hok, ?_⟩, ?_⟩
  · by_cases h0 : l = []
    · exact .inl h0
    · obtain ⟨p', cap', e, _, _, hp⟩ := rowS_form h
      cases e
      have hpos : 0 < l.length := List.length_pos_iff.2 h0
      obtain ⟨g, rfl⟩ := hp hpos
      refine .inr ⟨g, 0, rfl, (own_lt h (g := g) rfl).1, fun i c hi j hj => ?_⟩
      obtain ⟨hi2, hic⟩ := List.getElem?_eq_some_iff.1 hi
      rw [Nat.zero_add, (ownS_cell h (i * 2 + j) (by omega)).1, cellsE_get l i hi2 j hj, hic]
  · rintro rfl
    rcases h.2 with ⟨e, _⟩ | ⟨g, cap', cur, e, _⟩
    · injection e
    · injection e with e1; cases e1
theorem addC_rise (es : List (ByteArray × List ByteArray)) (ps : List ByteArray) : ps.all (fun p => (lookE es p).isSome) = (riseL ps).all (fun p => (lookE es p).isSome) := by
  rw [Bool.eq_iff_iff, List.all_eq_true, List.all_eq_true]
  exact ⟨fun h x hx => h x ((mem_rise ps x).1 hx), fun h x hx => h x ((mem_rise ps x).2 hx)⟩
theorem empty_own {w1 : World} {base : Nat} (h : base ≤ w1.heap.size) : (w1.alloc (.cells #[] 32)).ownsRow base 32 2 (.slice (some ⟨w1.heap.size, 0, none⟩) 0 0) 0 [] := ⟨rfl, .inr ⟨w1.heap.size, 0, #[], rfl, h, heap_alloc_new _ _, Nat.le_refl _, Nat.zero_le _, rfl, rfl⟩⟩
theorem empty_below {w1 w2 : World} {o : Obj} {n c : Nat} (h : (w1.alloc o).grownBy w2 (Value.ownBlock (.slice (some ⟨w1.heap.size, 0, none⟩) n c))) : Below w1.heap.size w1 w2 :=
  ((Below.refl _ _).alloc (Nat.le_refl _) _).grown h (by simp) (fun j hj => by
    have : w1.heap.size = j := by simpa [Value.ownBlock] using hj
    omega)
theorem last_below {w1 w2 w3 : World} {t : TypeId} {n size : Nat} {v : Value} {xs : List Value} {o : Obj} (h : w2.ownsRow w1.heap.size t size v n xs) (hg : (w2.alloc o).grownBy w3 v.ownBlock) (hs : w1.heap.size ≤ w2.heap.size) : Below w1.heap.size w2 w3 :=
  ((Below.refl _ _).alloc hs o).grown hg (by simp; omega) (fun j hj => (own_lt h hj).2.1)
/-- What the document's Add leaves. -/
def RAdd (w : World) (a : Option Addr) (l : List En) (id : ByteArray) (ps : List ByteArray) (e : Ending) (w' : World) : Prop :=
  ∃ a' cap' l', e = .returned (.tuple #[.slice a' l'.length cap', .int .i64 (addC (esEn l) id ps)]) ∧ (∀ W, EnsAt W a l → (∀ g, w.heap.size ≤ g → g < w'.heap.size → W.heap[g]? = w'.heap[g]?) → EnsAt W a' l') ∧ (a' = none → cap' = 0) ∧ esEn l' = addE (esEn l) id ps ∧ Below w.heap.size w w'
set_option maxHeartbeats 2000000 in
set_option maxRecDepth 100000 in
theorem radd_any {w : World} {a : Option Addr} {cap : Nat} {l : List En} (h : EnsAt w a l) (hnil : a = none → cap = 0) (hl : l.length ≤ 1000) (id : ByteArray) {p : Option Addr} {pc : Nat} {ps : List ByteArray} (hr : StrRow w p ps) (hps : ps.length ≤ 60) (hz : ∀ s ∈ ps, s.size ≤ 140737488351232) :
    Calls Try.prog 13 #[.slice a l.length cap, .string id, .slice p ps.length pc] w fun e w' => RAdd w a l id ps e w' := by
  have hsame : ∀ c : Int, addC (esEn l) id ps = c → c ≠ 0 → ∀ w', Below w.heap.size w w' → RAdd w a l id ps (.returned (.tuple #[.slice a l.length cap, .int .i64 c])) w' := fun c hc h0 w' hb =>
    ⟨a, cap, l, by rw [hc], fun W hW _ => hW, hnil, by unfold addE; rw [hc, if_neg h0], hb⟩
  have HSM := Lib.hid hsame
  by_cases h1 : id.size = 0
  · have HC := Lib.hid (show addC (esEn l) id ps = 1 by unfold addC; rw [if_pos (.inl h1)])
    clear h hnil hr hz hsame
    go_enter Try.func13, Try.ntmps13
    go_wp2
    go_ret2
    exact HSM.out 1 HC.out (by decide) _ (Below.refl _ _)
  by_cases h2 : 64 < id.size
  · have HC := Lib.hid (show addC (esEn l) id ps = 1 by unfold addC; rw [if_pos (.inr h2)])
    have h1i : ¬ ((id.size : Int) < 1) := by omega
    have h2i : (64 : Int) < (id.size : Int) := by omega
    clear h hnil hr hz hsame
    go_enter Try.func13, Try.ntmps13
    go_wp2
    go_ret2
    exact HSM.out 1 HC.out (by decide) _ (Below.refl _ _)
  have h1i : ¬ ((id.size : Int) < 1) := by omega
  have h2i : ¬ ((64 : Int) < (id.size : Int)) := by omega
  have hC1 : addC (esEn l) id ps = if (lookE (esEn l) id).isSome then 11 else if 300 ≤ l.length then 3 else if (riseL ps).all (fun p => (lookE (esEn l) p).isSome) then 0 else 9 := by
    unfold addC; rw [if_neg (by omega), addC_rise, esEn_len]
  cases ht : (lookE (esEn l) id).isSome with
  | true =>
    have HC := Lib.hid (show addC (esEn l) id ps = 11 by rw [hC1, ht]; rfl)
    have HF := Lib.hid (rfind_yes (cap := cap) h ht)
    clear h hnil hr hz hsame hC1
    go_enter Try.func13, Try.ntmps13
    go_wp2_with (go_at_call 16; refine HF.out.mono ?_; rintro e w' ⟨⟨i, hi, rfl, _, _⟩, e9⟩; rw [e9]; clear e9 w'; have i0 : (0 : Int) ≤ (i : Int) := (by omega))
    go_ret2
    exact HSM.out 11 HC.out (by decide) _ (Below.refl _ _)
  | false =>
    have HF := Lib.hid (rfind_no (cap := cap) h ht)
    rw [ht, if_neg Bool.false_ne_true] at hC1
    by_cases h3 : 300 ≤ l.length
    · have h3i : (300 : Int) ≤ (l.length : Int) := by omega
      have HC := Lib.hid (show addC (esEn l) id ps = 3 by rw [hC1, if_pos h3])
      clear h hnil hr hz hsame hC1
      go_enter Try.func13, Try.ntmps13
      go_wp2_with (go_at_call 16; refine HF.out.mono ?_; rintro e w' ⟨rfl, e9⟩; rw [e9]; clear e9 w')
      go_ret2
      exact HSM.out 3 HC.out (by decide) _ (Below.refl _ _)
    rw [if_neg h3] at hC1
    have h3i : ¬ ((300 : Int) ≤ (l.length : Int)) := by omega
    have HSR := Lib.hid (rsorted_any (cap := pc) hr (by omega))
    have hRl : (riseL ps).length ≤ 60 := Nat.le_trans (rise_le ps) hps
    have HRZ := Lib.hid (show ∀ s ∈ riseL ps, s.size ≤ 140737488351232 from fun s hs => hz s ((mem_rise ps s).1 hs))
    have HH := Lib.hid h
    have HFN := Lib.hid (fun W (hW : Below w.heap.size w W) s (hs : (lookE (esEn l) s).isSome = false) => rfind_no (cap := cap) (h.below hW) hs)
    have HFY := Lib.hid (fun W (hW : Below w.heap.size w W) s (hs : (lookE (esEn l) s).isSome = true) => rfind_yes (cap := cap) (h.below hW) hs)
    have HC9 := Lib.hid (show ∀ x ∈ riseL ps, (lookE (esEn l) x).isSome = false → addC (esEn l) id ps = 9 from fun x hx hx2 => by
      rw [hC1]
      have : ¬ (riseL ps).all (fun p => (lookE (esEn l) p).isSome) = true := fun hh => by
        have := List.all_eq_true.1 hh x hx
        rw [hx2] at this; cases this
      rw [if_neg this])
    have HC0 := Lib.hid (show (∀ k (hk : k < (riseL ps).length), (lookE (esEn l) (riseL ps)[k]).isSome = true) → addC (esEn l) id ps = 0 ∧ addE (esEn l) id ps = esEn l ++ [entOf id (riseL ps)] from fun hh => by
      have h0 : addC (esEn l) id ps = 0 := by
        rw [hC1, if_pos]
        exact List.all_eq_true.2 fun x hx => by obtain ⟨k, hk, rfl⟩ := List.mem_iff_getElem.1 hx; exact hh k hk
      exact ⟨h0, by unfold addE; rw [if_pos h0]⟩)
    obtain ⟨i0, hi0, hz0, hz1, hz2⟩ := info_parts (show (Try.prog.info? 32).map (fun i => (i.zero, i.size, i.bytes)) = some (some (.agg #[.string ⟨#[]⟩, .slice none 0 0]), 2, 40) by kernel_rfl)
    have I0 := Lib.hid hi0
    have Z0 := Lib.hid hz0
    have Z1 := Lib.hid hz1
    have Z2 := Lib.hid hz2
    have HNIL := Lib.hid hnil
    have HIZ := Lib.hid (show id.size ≤ 140737488351232 by omega)
    clear h hnil hr hz hsame hC1 hi0 hz0 hz1 hz2
    generalize riseL ps = P at *
    go_enter Try.func13, Try.ntmps13
    go_wp2_with (first
      | (go_at_call 31; refine HSR.out.mono ?_; rintro e w1 ⟨v1, rfl, o1, b1⟩; obtain ⟨p1, c1, rfl, _⟩ := rowS_form o1; have O1 := Lib.hid (show OwnL w1 w.heap.size (.slice p1 P.length c1) P from o1); have B1 := Lib.hid b1; clear o1 b1)
      | (go_at_call 16; refine HF.out.mono ?_; rintro e w' ⟨rfl, e9⟩; rw [e9]; clear e9 w'))
    clear HF HSR
    go_loop [9] (fun j => ∃ k : Nat, k ≤ P.length ∧ j = .int .i64 k ∧ (∀ i (hi : i < k) (hl : i < P.length), (lookE (esEn l) P[i]).isSome = true)) (fun j => P.length - (intOf j).toNat)
    case atStart => exact ⟨0, Nat.zero_le _, rfl, fun i hi => absurd hi (Nat.not_lt_zero i)⟩
    case round =>
      obtain ⟨k, hk, rfl, hall⟩ := hrel
      have HALL := Lib.hid hall
      clear hall
      by_cases hlt : k < P.length
      · obtain ⟨g, rfl, hg, hcell⟩ := row_cell12 O1.out (by omega)
        have ck := hcell k hlt
        have hkm := List.getElem_mem hlt
        have HE := Lib.hid (show ∃ x, P[k] = x from ⟨_, rfl⟩)
        obtain ⟨x, hx⟩ := HE.out
        have HX := Lib.hid hx
        clear HE hcell
        rw [hx] at ck hkm
        clear hx
        cases hxt : (lookE (esEn l) x).isSome with
        | true =>
          have HF := Lib.hid (HFY.out w1 B1.out x hxt)
          have HXT := Lib.hid hxt
          clear hxt
          go_wp2_with (go_at_call 16; refine HF.out.mono ?_; rintro e w' ⟨⟨i, hi, rfl, _, _⟩, e9⟩; rw [e9]; clear e9 w'; have i0 : ¬ ((i : Int) < 0) := (by omega))
          go_round
          case rel =>
            refine ⟨k + 1, by omega, by go_num, fun i hi hl => ?_⟩
            by_cases e : i = k
            · subst e; rw [HX.out]; exact HXT.out
            · exact HALL.out i (by omega) hl
          case measure => simp [intOf]; omega
        | false =>
          have HF := Lib.hid (HFN.out w1 B1.out x hxt)
          have HC := Lib.hid (HC9.out x hkm hxt)
          clear hxt
          go_wp2_with (go_at_call 16; refine HF.out.mono ?_; rintro e w' ⟨rfl, e9⟩; rw [e9]; clear e9 w')
          go_ret2
          exact HSM.out 9 HC.out (by decide) _ B1.out
      · obtain rfl : k = P.length := by omega
        obtain ⟨hc0, hce⟩ := HC0.out (fun k hk => HALL.out k hk hk)
        have HC := Lib.hid hc0
        have HCE := Lib.hid hce
        clear hc0 hce HALL HC0 HC9 HFN HFY
        have PN := Lib.hid (show p1 = none → c1 = 0 from fun e => by
          subst e
          rcases O1.out.2 with ⟨e, _⟩ | ⟨g, cap', cur, e, _⟩
          · injection e
          · injection e with e1; cases e1)
        have hw1 := B1.out.size
        rcases a with _ | ad
        · obtain rfl : cap = 0 := HNIL.out rfl
          obtain rfl : l = [] := by
            rcases HH.out.cells with h | ⟨b, off, e, _⟩
            · exact h
            · cases e
          go_wp2_with (first
            | (at_builtin; refine wpList_append_own _ rfl _ _ 22 rfl w1.heap.size 32 i0 (.agg #[.string ⟨#[]⟩, .slice none 0 0]) 2 40 Try.underlying22 I0.out Z0.out Z1.out Z2.out rfl (by decide) _ 0 (cellsE []) rfl (O2.out.alloc _) ⟨w2.heap.size, 0, none⟩ 1 1 [.string id, .slice p1 P.length c1] rfl rfl (World.news_of_block (cs := #[.string id, .slice p1 P.length c1]) (heap_alloc_new w2 _)) (by intro u hu; simp only [List.mem_cons, List.not_mem_nil, or_false] at hu; rcases hu with rfl | rfl <;> rfl) (by unfold maxLen; omega) (by omega) (by have := B12.out.size; simp; omega) ?_; intro v3 w3 ho3 hg3 _; obtain ⟨p3, c3, rfl, _⟩ := rowS_form ho3; have O3 := Lib.hid ho3; have B23 := Lib.hid (last_below O2.out hg3 B12.out.size); have B3 := Lib.hid (B2.out.trans (B23.out.mono hw1)); clear ho3 hg3)
            | (at_builtin; refine wpList_append_own_none rfl _ _ 22 rfl w1.heap.size 32 i0 2 Try.underlying22 I0.out _ 0 [] rfl (empty_own (Nat.le_refl _)) rfl ?_; obtain ⟨w2, hw2⟩ : ∃ W, W = w1.alloc (.cells #[] 32) := ⟨_, rfl⟩; have O2 := Lib.hid (show w2.ownsRow w1.heap.size 32 2 (.slice (some ⟨w1.heap.size, 0, none⟩) 0 0) 0 (cellsE []) from by rw [hw2]; exact empty_own (Nat.le_refl _)); have B12 := Lib.hid (show Below w1.heap.size w1 w2 by rw [hw2]; exact (Below.refl _ _).alloc (Nat.le_refl _) _); have B2 := Lib.hid (B1.out.trans (B12.out.mono hw1)); rw [← hw2]; clear hw2))
          go_ret2
          have hown3 := O3.out
          rw [show cellsE [] ++ [Value.string id, .slice p1 P.length c1] = cellsE ([] ++ [⟨id, P, p1, c1⟩]) by rw [cellsE_append]; rfl] at hown3
          have hz1 := B1.out.size
          have hz2 := B12.out.size
          have hz3 := B23.out.size
          have hn3 := (ens_own (w := w3) (l := [] ++ [⟨id, P, p1, c1⟩]) hown3 (by simp; unfold maxLen; omega) (fun c hc => by
            rcases List.mem_append.1 hc with hc | hc
            · exact (HH.out.below B3.out).ok c hc
            · rw [List.mem_singleton.1 hc]
              exact ⟨HIZ.out, ⟨O1.out.at_.below (B12.out.trans B23.out), by show P.length ≤ maxLen; unfold maxLen; omega, HRZ.out⟩, PN.out⟩))
          have hens : ∀ W, EnsAt W none [] → (∀ g, w.heap.size ≤ g → g < w3.heap.size → W.heap[g]? = w3.heap[g]?) → EnsAt W p3 ([] ++ [⟨id, P, p1, c1⟩]) := fun W hW hk => by
            have h1 : W.ownsRow w1.heap.size 32 2 (.slice p3 _ c3) _ _ := own_kept hown3 (fun g hg => hk g (by have := (own_lt hown3 hg).2.1; omega) (own_lt hown3 hg).1)
            have h2 : OwnL W w.heap.size (.slice p1 P.length c1) P := own_kept O1.out (fun g hg => (hk g (own_lt O1.out hg).2.1 (by have := (own_lt O1.out hg).1; omega)).trans ((B23.out.block g (own_lt O1.out hg).1).trans (B12.out.block g (own_lt O1.out hg).1)))
            exact (ens_own h1 (by simp; unfold maxLen; omega) (fun c hc => by
              rcases List.mem_append.1 hc with hc | hc
              · exact hW.ok c hc
              · rw [List.mem_singleton.1 hc]
                exact ⟨HIZ.out, ⟨h2.at_, by show P.length ≤ maxLen; unfold maxLen; omega, HRZ.out⟩, PN.out⟩)).2.1
          have hc := HC.out
          refine ⟨p3, c3, [] ++ [⟨id, P, p1, c1⟩], by rw [hc, ← hn3.1]; rfl, hens, hn3.2.2, by rw [esEn_append, HCE.out]; rfl, B3.out⟩
        · have HOLD := Lib.hid (show ∀ W, Below w.heap.size w W → ∀ j u, (cellsE l)[j]? = some u → W.cell? (ad.add j) = some u from fun W hW j u hu => by
            rcases HH.out.cells with h0 | ⟨b, off, e, hb, hc⟩
            · rw [h0] at hu; cases hu
            · cases e
              have h9 := ens_holds hc j u hu
              rw [Go.WideShapes.add_plain] at h9 ⊢
              exact (hW.cell (p := ⟨b, off + j, none⟩) hb).trans h9)
          have HBA := Lib.hid (fun o => B1.out.alloc hw1 o)
          go_wp2_with (first
            | (at_builtin; refine wpList_append_own _ rfl _ _ 22 rfl w1.heap.size 32 i0 (.agg #[.string ⟨#[]⟩, .slice none 0 0]) 2 40 Try.underlying22 I0.out Z0.out Z1.out Z2.out rfl (by decide) _ l.length (cellsE l) rfl (O2.out.alloc _) ⟨w2.heap.size, 0, none⟩ 1 1 [.string id, .slice p1 P.length c1] rfl rfl (World.news_of_block (cs := #[.string id, .slice p1 P.length c1]) (heap_alloc_new w2 _)) (by intro u hu; simp only [List.mem_cons, List.not_mem_nil, or_false] at hu; rcases hu with rfl | rfl <;> rfl) (by unfold maxLen; omega) (by omega) (by have := B12.out.size; simp; omega) ?_; intro v3 w3 ho3 hg3 _; obtain ⟨p3, c3, rfl, _⟩ := rowS_form ho3; have O3 := Lib.hid ho3; have B23 := Lib.hid (last_below O2.out hg3 B12.out.size); have B3 := Lib.hid (B2.out.trans (B23.out.mono hw1)); clear ho3 hg3)
            | (at_builtin; refine wpList_append_own _ rfl _ _ 22 rfl w1.heap.size 32 i0 (.agg #[.string ⟨#[]⟩, .slice none 0 0]) 2 40 Try.underlying22 I0.out Z0.out Z1.out Z2.out rfl (by decide) _ 0 [] rfl (empty_own (Nat.le_refl _)) ad l.length cap (cellsE l) rfl (cellsE_length l) (HOLD.out _ (HBA.out _)) (cellsE_one l) (by unfold maxLen; omega) (by omega) (by simp) ?_; intro v2 w2 ho2 hg2 _; have O2 := Lib.hid (show w2.ownsRow w1.heap.size 32 2 v2 l.length (cellsE l) by simpa using ho2); have B12 := Lib.hid (empty_below hg2); have B2 := Lib.hid (B1.out.trans (B12.out.mono hw1)); clear ho2 hg2))
          go_ret2
          have hown3 := O3.out
          rw [show cellsE l ++ [Value.string id, .slice p1 P.length c1] = cellsE (l ++ [⟨id, P, p1, c1⟩]) by rw [cellsE_append]; rfl] at hown3
          have hz1 := B1.out.size
          have hz2 := B12.out.size
          have hz3 := B23.out.size
          have hn3 := (ens_own (w := w3) (l := l ++ [⟨id, P, p1, c1⟩]) hown3 (by simp; unfold maxLen; omega) (fun c hc => by
            rcases List.mem_append.1 hc with hc | hc
            · exact (HH.out.below B3.out).ok c hc
            · rw [List.mem_singleton.1 hc]
              exact ⟨HIZ.out, ⟨O1.out.at_.below (B12.out.trans B23.out), by show P.length ≤ maxLen; unfold maxLen; omega, HRZ.out⟩, PN.out⟩))
          have hens : ∀ W, EnsAt W (some ad) l → (∀ g, w.heap.size ≤ g → g < w3.heap.size → W.heap[g]? = w3.heap[g]?) → EnsAt W p3 (l ++ [⟨id, P, p1, c1⟩]) := fun W hW hk => by
            have h1 : W.ownsRow w1.heap.size 32 2 (.slice p3 _ c3) _ _ := own_kept hown3 (fun g hg => hk g (by have := (own_lt hown3 hg).2.1; omega) (own_lt hown3 hg).1)
            have h2 : OwnL W w.heap.size (.slice p1 P.length c1) P := own_kept O1.out (fun g hg => (hk g (own_lt O1.out hg).2.1 (by have := (own_lt O1.out hg).1; omega)).trans ((B23.out.block g (own_lt O1.out hg).1).trans (B12.out.block g (own_lt O1.out hg).1)))
            exact (ens_own h1 (by simp; unfold maxLen; omega) (fun c hc => by
              rcases List.mem_append.1 hc with hc | hc
              · exact hW.ok c hc
              · rw [List.mem_singleton.1 hc]
                exact ⟨HIZ.out, ⟨h2.at_, by show P.length ≤ maxLen; unfold maxLen; omega, HRZ.out⟩, PN.out⟩)).2.1
          have hc := HC.out
          refine ⟨p3, c3, l ++ [⟨id, P, p1, c1⟩], by rw [hc, ← hn3.1]; rfl, hens, hn3.2.2, by rw [esEn_append, HCE.out]; rfl, B3.out⟩
end Go.Proofs.Ytabongfoeoideaa
