/-
  Layer 12, plain: what lies in a past; an order tells all, each behind its past.
-/
import Derived.Test.YtabongfoeoideaaDgf
namespace Go.Pal
open Go.RowKit
set_option linter.unusedVariables false
/-- Who lies ahead. -/
inductive Ahd (es : List (ByteArray × List ByteArray)) (id : ByteArray) : ByteArray → Prop
  | one {x : ByteArray} : x ∈ parE es id → Ahd es id x
  | more {y x : ByteArray} : Ahd es id y → x ∈ parE es y → Ahd es id x
/-- What is new in r brings its parents. -/
def ClN (es : List (ByteArray × List ByteArray)) (l r : List ByteArray) : Prop := ∀ y ∈ r, y ∉ l → ∀ p ∈ parE es y, p ∈ r
structure Gth (es : List (ByteArray × List ByteArray)) (id : ByteArray) (l r : List ByteArray) : Prop where
  sub : ∀ y ∈ l, y ∈ r
  par : ∀ p ∈ parE es id, p ∈ r
  cl : ClN es l r
  ahd : ∀ y ∈ r, y ∈ l ∨ Ahd es id y
theorem ahd_up {es : List (ByteArray × List ByteArray)} {id p y : ByteArray} (hp : p ∈ parE es id) (h : Ahd es p y) : Ahd es id y := by
  induction h with
  | one h => exact .more (.one hp) h
  | more _ h ih => exact .more ih h
theorem gath_fold {es : List (ByteArray × List ByteArray)} {F : List ByteArray → ByteArray → List ByteArray} {id : ByteArray} : ∀ (ps : List ByteArray), (∀ p ∈ ps, p ∈ parE es id ∧ ∀ l, Gth es p l (F l p)) → ∀ l, (∀ y ∈ l, y ∈ ps.foldl (stepGath F) l) ∧ (∀ p ∈ ps, p ∈ ps.foldl (stepGath F) l) ∧ ClN es l (ps.foldl (stepGath F) l) ∧ ∀ y ∈ ps.foldl (stepGath F) l, y ∈ l ∨ Ahd es id y := by
  intro ps
  induction ps with
  | nil => intro _ l; exact ⟨fun y hy => hy, fun p hp => (by cases hp), fun y hy hn => absurd hy hn, fun y hy => Or.inl hy⟩
  | cons q r ih =>
    intro h l
    obtain ⟨hq, hF⟩ := h q List.mem_cons_self
    have hstep : (∀ y ∈ l, y ∈ stepGath F l q) ∧ q ∈ stepGath F l q ∧ ClN es l (stepGath F l q) ∧ ∀ y ∈ stepGath F l q, y ∈ l ∨ Ahd es id y := by
      unfold stepGath
      by_cases hm : q ∈ l
      · rw [memB_iff.2 hm]
        exact ⟨fun y hy => hy, hm, fun y hy hn => absurd hy hn, fun y hy => .inl hy⟩
      · rw [memF.2 hm]
        have g := hF (addL l q)
        have hqa : q ∈ addL l q := mem_addL.2 (.inr rfl)
        refine ⟨fun y hy => g.sub y (mem_addL.2 (.inl hy)), g.sub q hqa, fun y hy hn p hp => ?_, fun y hy => ?_⟩
        · by_cases e : y = q
          · subst e; exact g.par p hp
          · exact g.cl y hy (fun hh => by rcases mem_addL.1 hh with hh | hh; exact hn hh; exact e hh) p hp
        · rcases g.ahd y hy with hh | hh
          · rcases mem_addL.1 hh with hh | rfl
            · exact .inl hh
            · exact .inr (.one hq)
          · exact .inr (ahd_up hq hh)
    obtain ⟨s1, s2, s3, s4⟩ := hstep
    obtain ⟨i1, i2, i3, i4⟩ := ih (fun p hp => h p (List.mem_cons_of_mem _ hp)) (stepGath F l q)
    refine ⟨fun y hy => i1 y (s1 y hy), fun p hp => ?_, fun y hy hn p hp => ?_, fun y hy => ?_⟩
    · rcases List.mem_cons.1 hp with rfl | hp
      · exact i1 _ s2
      · exact i2 p hp
    · by_cases hc : y ∈ stepGath F l q
      · exact i1 p (s3 y hc hn p hp)
      · exact i3 y hy hc p hp
    · rcases i4 y hy with hh | hh
      · exact s4 y hh
      · exact .inr hh
theorem gather_gth {es : List (ByteArray × List ByteArray)} (hok : DagOk es) : ∀ (n : Nat) (id : ByteArray) (l : List ByteArray), ((lookE es id).isSome = true → rankE es id < n) → 0 < n → Gth es id l (gatherL es n l id) := by
  intro n
  induction n with
  | zero => intro id l h hn; omega
  | succ k ih =>
    intro id l h hn
    have hf := gath_fold (es := es) (F := gatherL es k) (id := id) (parE es id) (fun p hp => ⟨hp, fun l => by
      obtain ⟨h1, h2, _⟩ := hok.there hp
      have h3 := h (parE_there hp)
      refine ih p l (fun _ => by omega) (by omega)⟩) l
    exact ⟨hf.1, hf.2.1, hf.2.2.1, hf.2.2.2⟩
theorem past_gth {es : List (ByteArray × List ByteArray)} (hok : DagOk es) (id : ByteArray) : Gth es id [] (pastL es id) := by
  cases es with
  | nil => exact ⟨fun y hy => (by cases hy), fun p hp => (by cases hp), fun y hy => (by cases hy), fun y hy => (by cases hy)⟩
  | cons e r => exact gather_gth hok _ id [] rankE_lt (by simp)
theorem mem_past {es : List (ByteArray × List ByteArray)} (hok : DagOk es) {id x : ByteArray} : x ∈ pastL es id ↔ Ahd es id x := by
  have g := past_gth hok id
  constructor
  · intro h; rcases g.ahd x h with hh | hh
    · cases hh
    · exact hh
  · intro h
    induction h with
    | one h => exact g.par _ h
    | more _ h ih => exact g.cl _ ih (by simp) _ h
theorem ahd_there {es : List (ByteArray × List ByteArray)} {id x : ByteArray} (h : Ahd es id x) : (lookE es id).isSome = true := by
  induction h with
  | one h => exact parE_there h
  | more _ _ ih => exact ih
theorem ahd_rank {es : List (ByteArray × List ByteArray)} (hok : DagOk es) {id x : ByteArray} (h : Ahd es id x) : rankE es x < rankE es id := by
  induction h with
  | one h => exact (hok.there h).2.1
  | more _ h ih => have := (hok.there h).2.1; omega
/-- What is closed and told has the pasts too. -/
theorem closed_ahd {es : List (ByteArray × List ByteArray)} {T : List ByteArray} (h : ClosedT es T) {y x : ByteArray} (hy : y ∈ T) (ha : Ahd es y x) : x ∈ T := by
  induction ha with
  | one h1 => exact h y hy _ h1
  | more _ h1 ih => exact h _ ih _ h1
theorem ready_some {es : List (ByteArray × List ByteArray)} (hok : DagOk es) {T : List ByteArray} {x : ByteArray} (hx : (lookE es x).isSome = true) (hn : x ∉ T) : readyL es T ≠ [] := by
  intro he
  have : ∀ n y, rankE es y < n → (lookE es y).isSome = true → y ∈ T := by
    intro n
    induction n with
    | zero => intro y h; omega
    | succ k ih =>
      intro y hy hs
      by_cases hm : y ∈ T
      · exact hm
      · have : y ∈ readyL es T := Go.Pal.mem_ready.2 ⟨hs, hm, by
          unfold untoldN
          rw [List.filter_eq_nil_iff.2 (fun p hp => by
            obtain ⟨h1, h2, _⟩ := hok.there hp
            rw [memB_iff.2 (ih p (by omega) h1)]; simp)]; rfl⟩
        rw [he] at this; cases this
  exact hn (this _ x (Nat.lt_succ_self _) hx)
/-- What an order keeps as it is told. -/
structure Odr (es : List (ByteArray × List ByteArray)) (T : List ByteArray) : Prop where
  good : GoodL es T
  cl : ∀ k, ClosedT es (T.take k)
theorem Odr.nil (es : List (ByteArray × List ByteArray)) : Odr es [] := ⟨⟨List.nodup_nil, fun x hx => by cases hx⟩, fun k y hy => by simp at hy⟩
theorem Odr.closed {es : List (ByteArray × List ByteArray)} {T : List ByteArray} (h : Odr es T) : ClosedT es T := by
  have := h.cl T.length
  rwa [List.take_length] at this
theorem Odr.step {es : List (ByteArray × List ByteArray)} {T : List ByteArray} (h : Odr es T) {a : ByteArray} {r : List ByteArray} (ha : readyL es T = a :: r) : Odr es (T ++ [a]) := by
  refine ⟨told_step h.good ha, fun k => ?_⟩
  by_cases hk : k ≤ T.length
  · rw [List.take_append_of_le_length hk]; exact h.cl k
  · rw [List.take_of_length_le (by simp; omega)]; exact closed_step h.closed ha
theorem order_go_odr {es : List (ByteArray × List ByteArray)} : ∀ n T, Odr es T → Odr es (orderGo es n T)
  | 0, T, h => h
  | n + 1, T, h => by
    rw [orderGo]
    split
    · exact h
    · next a r ha => exact order_go_odr n _ (h.step ha)
theorem order_odr (es : List (ByteArray × List ByteArray)) : Odr es (orderL es) := order_go_odr _ _ (Odr.nil es)
theorem order_go_len {es : List (ByteArray × List ByteArray)} (hok : DagOk es) (hn : (es.map Prod.fst).Nodup) : ∀ n T, Odr es T → n + T.length = es.length → (orderGo es n T).length = es.length
  | 0, T, h, hl => by simpa [orderGo] using hl
  | n + 1, T, h, hl => by
    rw [orderGo]
    split
    · next ha =>
      exfalso
      have : ∃ x ∈ es.map Prod.fst, x ∉ T := by
        refine Classical.byContradiction fun hc => ?_
        have := sub_len (es.map Prod.fst) T hn (fun x hx => Classical.byContradiction fun hh => hc ⟨x, hx, hh⟩)
        simp at this; omega
      obtain ⟨x, hx, hxT⟩ := this
      exact ready_some hok (lookE_isSome.2 hx) hxT ha
    · next a r ha => exact order_go_len hok hn n _ (h.step ha) (by simp; omega)
theorem order_len {es : List (ByteArray × List ByteArray)} (hok : DagOk es) (hn : (es.map Prod.fst).Nodup) : (orderL es).length = es.length := order_go_len hok hn _ _ (Odr.nil es) (by simp)
theorem order_mem {es : List (ByteArray × List ByteArray)} (hok : DagOk es) (hn : (es.map Prod.fst).Nodup) {x : ByteArray} : x ∈ orderL es ↔ (lookE es x).isSome = true := by
  refine ⟨fun h => (order_odr es).good.2 x h, fun h => ?_⟩
  refine Classical.byContradiction fun hc => ?_
  have hg := (order_odr es).good
  have h2 : GoodL es (orderL es ++ [x]) := ⟨List.nodup_append.2 ⟨hg.1, by simp, fun a ha c hcc => by rw [List.mem_singleton.1 hcc]; exact fun e => hc (e ▸ ha)⟩, fun y hy => by rcases List.mem_append.1 hy with hy | hy; exact hg.2 y hy; rw [List.mem_singleton.1 hy]; exact h⟩
  have := h2.len
  rw [List.length_append, order_len hok hn, List.length_singleton] at this
  omega
/-- No entry stands ahead of one of its past. -/
theorem order_past {es : List (ByteArray × List ByteArray)} (hok : DagOk es) {i k : Nat} (hk : k ≤ i) (hi : i < (orderL es).length) : (orderL es)[i] ∉ pastL es ((orderL es)[k]) := by
  intro h
  have ho := order_odr es
  have ha := mem_past hok |>.1 h
  have hkk : k < (orderL es).length := by omega
  have hm : (orderL es)[k] ∈ (orderL es).take (k + 1) := by
    rw [List.take_succ_eq_append_getElem hkk]; exact List.mem_append_right _ (List.mem_singleton.2 rfl)
  have hx := closed_ahd (ho.cl (k + 1)) hm ha
  rw [List.take_succ_eq_append_getElem hkk] at hx
  rcases List.mem_append.1 hx with hx | hx
  · obtain ⟨j, hj, e⟩ := List.mem_iff_getElem.1 hx
    rw [List.getElem_take] at e
    have hj2 : j < k := by simp at hj; omega
    have := (List.getElem_inj ho.good.1).1 e
    omega
  · have e := List.mem_singleton.1 hx
    have hr := ahd_rank hok ha
    rw [e] at hr; omega
end Go.Pal
