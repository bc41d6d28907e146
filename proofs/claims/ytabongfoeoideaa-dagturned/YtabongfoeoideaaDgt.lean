/-
  Layer 12, plain: entries that are added again in another order.
-/
import Derived.Test.YtabongfoeoideaaB30
namespace Go.Pal
open Go.RowKit
set_option linter.unusedVariables false
/-- What is left to be added again, and what has been. -/
structure TurnI (es esB : List (ByteArray × List ByteArray)) (L : List ByteArray) : Prop where
  sub : L.Sublist (orderL es)
  mem : ∀ x, (lookE esB x).isSome = true ↔ ((lookE es x).isSome = true ∧ x ∉ L)
  par : ∀ x, (lookE esB x).isSome = true → parE esB x = parE es x
  len : esB.length + L.length = es.length
theorem rise_self {l : List ByteArray} (h : Rising l) : riseL l = l := rising_unique (rise_rising _) h (fun x => mem_rise l x)
theorem par_rise {es : List (ByteArray × List ByteArray)} (hok : DagOk es) (x : ByteArray) : Rising (parE es x) := by
  unfold parE
  cases hl : lookE es x with
  | none => exact List.Pairwise.nil
  | some e => exact hok.rise e (lookE_some hl).1
theorem look_nil (x : ByteArray) : lookE [] x = none := rfl
theorem TurnI.start {es : List (ByteArray × List ByteArray)} (hok : DagOk es) (hn : (es.map Prod.fst).Nodup) : TurnI es [] (orderL es) :=
  ⟨List.Sublist.refl _, fun x => ⟨fun h => (by rw [look_nil] at h; cases h), fun h => absurd ((order_mem hok hn).2 h.1) h.2⟩, fun x h => (by rw [look_nil] at h; cases h), by rw [order_len hok hn]; simp⟩
theorem TurnI.nodup {es esB : List (ByteArray × List ByteArray)} {L : List ByteArray} (h : TurnI es esB L) : L.Nodup := h.sub.nodup (order_odr es).good.1
theorem TurnI.there {es esB : List (ByteArray × List ByteArray)} {L : List ByteArray} (h : TurnI es esB L) {x : ByteArray} (hx : x ∈ L) : (lookE es x).isSome = true := (order_odr es).good.2 x (h.sub.subset hx)
theorem TurnI.code {es esB : List (ByteArray × List ByteArray)} {L : List ByteArray} (h : TurnI es esB L) (hok : DagOk es) (hne : NoE es) {x : ByteArray} (hx : x ∈ L) : addC esB x (parE es x) = if (parE es x).all (fun p => (lookE esB p).isSome) then 0 else 9 := by
  obtain ⟨e, he, hex⟩ := List.mem_map.1 (lookE_isSome.1 (h.there hx))
  have h1 := hok.size e he
  have h2 := hne e he
  rw [hex] at h1 h2
  have h3 : ¬ (lookE esB x).isSome = true := fun hh => ((h.mem x).1 hh).2 hx
  have h4 := h.len
  have h5 := hok.len
  have h6 := List.length_pos_of_mem hx
  unfold addC
  rw [if_neg (by omega), if_neg h3, if_neg (by omega)]
theorem TurnI.first {es esB : List (ByteArray × List ByteArray)} {L : List ByteArray} (h : TurnI es esB L) (hok : DagOk es) (hne : NoE es) (h0 : 0 < L.length) : addC esB L[0] (parE es L[0]) = 0 := by
  have hx : L[0] ∈ L := List.getElem_mem h0
  rw [h.code hok hne hx, if_pos]
  refine List.all_eq_true.2 fun p hp => (h.mem p).2 ⟨(hok.there hp).1, fun hpL => ?_⟩
  -- p stands ahead of L[0] in the order, so it is not left
  have hn := (order_odr es).good.1
  obtain ⟨a, r, hL⟩ : ∃ a r, L = a :: r := by
    cases L with
    | nil => cases hx
    | cons a r => exact ⟨a, r, rfl⟩
  subst hL
  have hps : p ∈ r := by
    rcases List.mem_cons.1 hpL with e | h1
    · have hr := (hok.there hp).2.1
      simp only [List.getElem_cons_zero] at hr
      rw [e] at hr; omega
    · exact h1
  simp only [List.getElem_cons_zero] at hp
  have hsub := h.sub
  obtain ⟨u, v, huv, hau, hrv⟩ : ∃ u v, orderL es = u ++ v ∧ a ∈ u ∧ r.Sublist v := by
    have : ∀ (O : List ByteArray), (a :: r).Sublist O → ∃ u v, O = u ++ v ∧ a ∈ u ∧ r.Sublist v := by
      intro O
      induction O with
      | nil => intro h; cases h
      | cons o t ih =>
        intro h
        cases h with
        | cons _ h1 =>
          obtain ⟨u, v, e, h2, h3⟩ := ih h1
          exact ⟨o :: u, v, by rw [e]; rfl, List.mem_cons_of_mem _ h2, h3⟩
        | cons_cons _ h1 => exact ⟨[a], t, rfl, List.mem_singleton.2 rfl, h1⟩
    exact this _ hsub
  have hpu : p ∈ u := by
    have hcl := (order_odr es).cl u.length
    rw [huv, List.take_left] at hcl
    exact hcl a hau p hp
  have hpv : p ∈ v := hrv.subset hps
  rw [huv, List.nodup_append] at hn
  exact hn.2.2 p hpu p hpv rfl
theorem parE_append (es : List (ByteArray × List ByteArray)) (e : ByteArray × List ByteArray) (y : ByteArray) : parE (es ++ [e]) y = if (lookE es y).isSome = true then parE es y else if e.1 = y then e.2 else [] := by
  show (match lookE (es ++ [e]) y with | none => [] | some e => e.2) = _
  rw [lookE_append]
  by_cases hb : (lookE es y).isSome = true
  · rw [if_pos hb, if_pos hb]; rfl
  · rw [if_neg hb, if_neg hb]
    by_cases he : e.1 = y
    · rw [if_pos he, if_pos he]
    · rw [if_neg he, if_neg he]
theorem TurnI.step {es esB : List (ByteArray × List ByteArray)} {L : List ByteArray} (h : TurnI es esB L) (hok : DagOk es) {k : Nat} (hk : k < L.length) (hc : addC esB L[k] (parE es L[k]) = 0) : TurnI es (addE esB L[k] (parE es L[k])) (L.take k ++ L.drop (k + 1)) := by
  have hn := h.nodup
  have hsplit : L = L.take k ++ L[k] :: L.drop (k + 1) := by rw [← List.drop_eq_getElem_cons hk, List.take_append_drop]
  obtain ⟨x, hx⟩ : ∃ x, x = L[k] := ⟨_, rfl⟩
  rw [← hx] at hc hsplit ⊢
  have hxL : x ∈ L := by rw [hx]; exact List.getElem_mem hk
  have hno : (lookE esB x).isSome = false := by
    cases hh : (lookE esB x).isSome with
    | false => rfl
    | true => exact absurd hxL ((h.mem x).1 hh).2
  have hE : addE esB x (parE es x) = esB ++ [entOf x (parE es x)] := by
    unfold addE; rw [if_pos hc, rise_self (par_rise hok x)]
  rw [hE]
  obtain ⟨A, hA⟩ : ∃ A, A = L.take k := ⟨_, rfl⟩
  obtain ⟨D, hD⟩ : ∃ D, D = L.drop (k + 1) := ⟨_, rfl⟩
  rw [← hA, ← hD] at hsplit ⊢
  have hlen : L.length = A.length + D.length + 1 := by rw [hsplit]; simp; omega
  have hxn : x ∉ A ++ D := by
    rw [hsplit, List.nodup_append] at hn
    intro hh
    rcases List.mem_append.1 hh with hh | hh
    · exact hn.2.2 x hh x (List.mem_cons_self) rfl
    · exact (List.nodup_cons.1 hn.2.1).1 hh
  have hmL : ∀ y, y ∈ L ↔ y = x ∨ y ∈ A ++ D := fun y => by
    rw [hsplit, List.mem_append, List.mem_cons, List.mem_append]
    exact ⟨fun hh => by rcases hh with hh | hh | hh; exact .inr (.inl hh); exact .inl hh; exact .inr (.inr hh), fun hh => by rcases hh with hh | hh | hh; exact .inr (.inl hh); exact .inl hh; exact .inr (.inr hh)⟩
  refine ⟨?_, fun y => ?_, fun y hy => ?_, ?_⟩
  · refine List.Sublist.trans ?_ h.sub
    rw [hsplit]
    exact (List.Sublist.refl A).append (List.sublist_cons_self x D)
  · rw [lookE_append]
    by_cases hy : (lookE esB y).isSome = true
    · rw [if_pos hy]
      have h1 := (h.mem y).1 hy
      exact ⟨fun _ => ⟨h1.1, fun hh => h1.2 ((hmL y).2 (.inr hh))⟩, fun _ => hy⟩
    · rw [if_neg hy]
      by_cases e : x = y
      · have e' : (entOf x (parE es x)).1 = y := e
        rw [if_pos e']
        subst e
        exact ⟨fun _ => ⟨h.there hxL, hxn⟩, fun _ => rfl⟩
      · have e' : ¬ (entOf x (parE es x)).1 = y := e
        rw [if_neg e']
        refine ⟨fun hh => (by cases hh), fun hh => absurd ((h.mem y).2 ⟨hh.1, fun hL => ?_⟩) hy⟩
        rcases (hmL y).1 hL with e2 | hh2
        · exact e e2.symm
        · exact hh.2 hh2
  · rw [parE_append]
    by_cases hb : (lookE esB y).isSome = true
    · rw [if_pos hb]; exact h.par y hb
    · rw [if_neg hb]
      rw [lookE_append, if_neg hb] at hy
      by_cases e : (entOf x (parE es x)).1 = y
      · rw [if_pos e]
        have e' : x = y := e
        subst e'; rfl
      · rw [if_neg e] at hy; cases hy
  · have := h.len
    rw [List.length_append, List.length_singleton, List.length_append]; omega
theorem TurnI.pars {es esB : List (ByteArray × List ByteArray)} (h : TurnI es esB []) (x : ByteArray) : parE esB x = parE es x := by
  by_cases hb : (lookE esB x).isSome = true
  · exact h.par x hb
  · have he : ¬ (lookE es x).isSome = true := fun hh => hb ((h.mem x).2 ⟨hh, by simp⟩)
    unfold parE
    cases h1 : lookE esB x with
    | some e => rw [h1] at hb; exact absurd rfl hb
    | none => cases h2 : lookE es x with
      | some e => rw [h2] at he; exact absurd rfl he
      | none => rfl
theorem TurnI.looks {es esB : List (ByteArray × List ByteArray)} (h : TurnI es esB []) (x : ByteArray) : (lookE esB x).isSome = true ↔ (lookE es x).isSome = true := by
  rw [h.mem x]; simp
theorem mem_headP {es : List (ByteArray × List ByteArray)} (x : ByteArray) : x ∈ headE es ↔ (lookE es x).isSome = true ∧ ∀ y, (lookE es y).isSome = true → x ∉ parE es y := by
  unfold headE
  rw [List.mem_filter, List.all_eq_true, ← lookE_isSome]
  refine and_congr_right fun _ => ⟨fun h y hy => ?_, fun h e he => ?_⟩
  · obtain ⟨e, he, rfl⟩ := List.mem_map.1 (lookE_isSome.1 hy)
    have := h e he
    exact memF.1 (by simpa using this)
  · rw [memF.2 (h e.1 (lookE_isSome.2 (List.mem_map_of_mem he)))]; rfl
theorem TurnI.heads {es esB : List (ByteArray × List ByteArray)} (h : TurnI es esB []) : headsL esB = headsL es := by
  refine rising_unique (rise_rising _) (rise_rising _) fun x => ?_
  unfold headsL
  rw [mem_rise, mem_rise, mem_headP, mem_headP, h.looks x]
  refine and_congr_right fun _ => ⟨fun hh y hy => ?_, fun hh y hy => ?_⟩
  · rw [← h.pars y]; exact hh y ((h.looks y).2 hy)
  · rw [h.pars y]; exact hh y ((h.looks y).1 hy)
theorem TurnI.ready {es esB : List (ByteArray × List ByteArray)} (h : TurnI es esB []) (T : List ByteArray) : readyL esB T = readyL es T := by
  refine rising_unique (ready_rising _ _) (ready_rising _ _) fun x => ?_
  rw [Go.Pal.mem_ready, Go.Pal.mem_ready, h.looks x]
  unfold untoldN
  rw [h.pars x]
theorem TurnI.order {es esB : List (ByteArray × List ByteArray)} (h : TurnI es esB []) : orderL esB = orderL es := by
  have hg : ∀ n T, orderGo esB n T = orderGo es n T := by
    intro n
    induction n with
    | zero => intro T; rfl
    | succ k ih =>
      intro T
      rw [orderGo, orderGo, h.ready T]
      split
      · rfl
      · exact ih _
  have hl : esB.length = es.length := by have := h.len; simpa using this
  unfold orderL
  rw [hg, hl]
theorem TurnI.past {es esB : List (ByteArray × List ByteArray)} (h : TurnI es esB []) (hok : DagOk es) (hokB : DagOk esB) (x : ByteArray) : riseL (pastL esB x) = riseL (pastL es x) := by
  refine rising_unique (rise_rising _) (rise_rising _) fun y => ?_
  rw [mem_rise, mem_rise, mem_past hok, mem_past hokB]
  constructor
  · intro ha
    induction ha with
    | one h1 => exact .one (h.pars x ▸ h1)
    | more _ h1 ih => exact .more ih (h.pars _ ▸ h1)
  · intro ha
    induction ha with
    | one h1 => exact .one ((h.pars x).symm ▸ h1)
    | more _ h1 ih => exact .more ih ((h.pars _).symm ▸ h1)
end Go.Pal
