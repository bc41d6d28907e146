/-
  Layer 12, plain: the order of all entries, as it is told one by one.
-/
import Derived.Test.YtabongfoeoideaaDg8
namespace Go.Pal
open Go.RowKit
set_option linter.unusedVariables false
/-- How many of an entry's parents are not told. -/
def untoldN (es : List (ByteArray × List ByteArray)) (T : List ByteArray) (x : ByteArray) : Nat := ((parE es x).filter (fun p => !memB T p)).length
/-- Who may be told next. -/
def readyL (es : List (ByteArray × List ByteArray)) (T : List ByteArray) : List ByteArray := riseL ((es.map Prod.fst).filter (fun x => !memB T x && decide (untoldN es T x = 0)))
def orderGo (es : List (ByteArray × List ByteArray)) : Nat → List ByteArray → List ByteArray
  | 0, T => T
  | n + 1, T => match readyL es T with
    | [] => T
    | a :: _ => orderGo es n (T ++ [a])
def orderL (es : List (ByteArray × List ByteArray)) : List ByteArray := orderGo es es.length []
theorem memF {T : List ByteArray} {x : ByteArray} : memB T x = false ↔ x ∉ T := by
  rw [← memB_iff]; cases memB T x <;> simp
theorem mem_ready {es : List (ByteArray × List ByteArray)} {T : List ByteArray} {x : ByteArray} : x ∈ readyL es T ↔ (lookE es x).isSome = true ∧ x ∉ T ∧ untoldN es T x = 0 := by
  unfold readyL
  rw [mem_rise, List.mem_filter, lookE_isSome]
  simp [memF]
theorem ready_rising (es : List (ByteArray × List ByteArray)) (T : List ByteArray) : Rising (readyL es T) := rise_rising _
theorem ready_good (es : List (ByteArray × List ByteArray)) (T : List ByteArray) : GoodL es (readyL es T) := ⟨(ready_rising es T).nodup, fun x hx => (mem_ready.1 hx).1⟩
theorem untold_nil (es : List (ByteArray × List ByteArray)) (x : ByteArray) : untoldN es [] x = (parE es x).length := by
  unfold untoldN
  rw [List.filter_eq_self.2 (fun p _ => by simp [memF])]
theorem told_other {es : List (ByteArray × List ByteArray)} {T : List ByteArray} {a x : ByteArray} (h : a ∉ parE es x) : untoldN es (T ++ [a]) x = untoldN es T x := by
  unfold untoldN
  congr 1
  refine List.filter_congr fun p hp => ?_
  congr 1
  rw [Bool.eq_iff_iff, memB_iff, memB_iff, List.mem_append, List.mem_singleton]
  exact ⟨fun hh => by rcases hh with hh | rfl; exact hh; exact absurd hp h, .inl⟩
theorem filter_one {l : List ByteArray} {T : List ByteArray} {a : ByteArray} (hn : l.Nodup) (ha : a ∈ l) (hT : a ∉ T) : (l.filter (fun p => !memB T p)).length = (l.filter (fun p => !memB (T ++ [a]) p)).length + 1 := by
  induction l with
  | nil => cases ha
  | cons y r ih =>
    obtain ⟨h1, h2⟩ := List.nodup_cons.1 hn
    have hap : ∀ p, memB (T ++ [a]) p = (memB T p || decide (p = a)) := fun p => by
      rw [Bool.eq_iff_iff, memB_iff, List.mem_append, List.mem_singleton, Bool.or_eq_true, memB_iff, decide_eq_true_iff]
    by_cases e : y = a
    · subst e
      have e1 : memB T y = false := memF.2 hT
      have e2 : (r.filter (fun p => !memB (T ++ [y]) p)) = r.filter (fun p => !memB T p) := List.filter_congr fun p hp => by
        rw [hap p]
        have : ¬ p = y := fun h => h1 (h ▸ hp)
        simp [this]
      rw [List.filter_cons, List.filter_cons, e1, hap y]
      simp [e2]
    · have hr := ih h2 (by rcases List.mem_cons.1 ha with h | h; exact absurd h.symm e; exact h)
      have e2 : memB (T ++ [a]) y = memB T y := by rw [hap y]; simp [e]
      rw [List.filter_cons, List.filter_cons, e2]
      cases memB T y with
      | true => simpa using hr
      | false => simpa using hr
theorem told_child {es : List (ByteArray × List ByteArray)} (hok : DagOk es) {T : List ByteArray} {a x : ByteArray} (h : a ∈ parE es x) (hT : a ∉ T) : untoldN es T x = untoldN es (T ++ [a]) x + 1 :=
  filter_one (parE_nodup hok x) h hT
theorem untold_zero {es : List (ByteArray × List ByteArray)} {T : List ByteArray} {x : ByteArray} (h : untoldN es T x = 0) : ∀ p ∈ parE es x, p ∈ T := fun p hp => by
  unfold untoldN at h
  have h1 := List.filter_eq_nil_iff.1 (List.eq_nil_of_length_eq_zero h) p hp
  cases hm : memB T p with
  | true => exact memB_iff.1 hm
  | false => rw [hm] at h1; exact absurd rfl h1
def ClosedT (es : List (ByteArray × List ByteArray)) (T : List ByteArray) : Prop := ∀ y ∈ T, ∀ p ∈ parE es y, p ∈ T
theorem closed_step {es : List (ByteArray × List ByteArray)} {T : List ByteArray} {a : ByteArray} {r : List ByteArray} (h : ClosedT es T) (ha : readyL es T = a :: r) : ClosedT es (T ++ [a]) := fun y hy p hp => by
  rcases List.mem_append.1 hy with hy | hy
  · exact List.mem_append_left _ (h y hy p hp)
  · rw [List.mem_singleton.1 hy] at hp
    exact List.mem_append_left _ (untold_zero (mem_ready.1 (show a ∈ readyL es T by rw [ha]; exact List.mem_cons_self)).2.2 p hp)
theorem told_step {es : List (ByteArray × List ByteArray)} {T : List ByteArray} {a : ByteArray} {r : List ByteArray} (h : GoodL es T) (ha : readyL es T = a :: r) : GoodL es (T ++ [a]) := by
  have hm := mem_ready.1 (show a ∈ readyL es T by rw [ha]; exact List.mem_cons_self)
  refine ⟨List.nodup_append.2 ⟨h.1, by simp, fun x hx c hc => ?_⟩, fun x hx => ?_⟩
  · rw [List.mem_singleton.1 hc]; exact fun e => hm.2.1 (e ▸ hx)
  · rcases List.mem_append.1 hx with hx | hx
    · exact h.2 x hx
    · rw [List.mem_singleton.1 hx]; exact hm.1
/-- One told: who is ready then. -/
theorem ready_step {es : List (ByteArray × List ByteArray)} (hok : DagOk es) {cs : ByteArray → List ByteArray} (hc : ChildOf es cs) {T : List ByteArray} (hcl : ClosedT es T) {a : ByteArray} {r R : List ByteArray} (ha : readyL es T = a :: r) (hR : Rising R) (hm : ∀ x, x ∈ R ↔ x ∈ r ∨ (x ∈ cs a ∧ untoldN es (T ++ [a]) x = 0)) : R = readyL es (T ++ [a]) := by
  have hra := ready_rising es T
  rw [ha] at hra
  have har : a ∉ r := (List.nodup_cons.1 hra.nodup).1
  have hma : (lookE es a).isSome = true ∧ a ∉ T ∧ untoldN es T a = 0 := mem_ready.1 (by rw [ha]; exact List.mem_cons_self)
  refine rising_unique hR (ready_rising _ _) fun x => ?_
  rw [hm x, mem_ready]
  have hself : a ∉ parE es a := fun h => absurd (hok.there h).2.1 (Nat.lt_irrefl _)
  constructor
  · rintro (h | ⟨h, h0⟩)
    · obtain ⟨q1, q2, q3⟩ := mem_ready.1 (show x ∈ readyL es T by rw [ha]; exact List.mem_cons_of_mem _ h)
      have hxa : x ≠ a := fun e => har (e ▸ h)
      refine ⟨q1, by simp [q2, hxa], ?_⟩
      by_cases hp : a ∈ parE es x
      · have := told_child hok hp hma.2.1; omega
      · rw [told_other hp]; exact q3
    · have hp := (hc.mem a x).1 h
      have hx0 := told_child hok hp hma.2.1
      refine ⟨parE_there hp, fun hx => ?_, h0⟩
      rcases List.mem_append.1 hx with hx | hx
      · exact hma.2.1 (hcl x hx a hp)
      · exact hself (by rw [List.mem_singleton.1 hx] at hp; exact hp)
  · rintro ⟨q1, q2, q3⟩
    have hxa : x ≠ a := fun e => q2 (by simp [e])
    have hxT : x ∉ T := fun h => q2 (by simp [h])
    by_cases hp : a ∈ parE es x
    · exact .inr ⟨(hc.mem a x).2 hp, q3⟩
    · rw [told_other hp] at q3
      have : x ∈ readyL es T := mem_ready.2 ⟨q1, hxT, q3⟩
      rw [ha] at this
      rcases List.mem_cons.1 this with h | h
      · exact absurd h hxa
      · exact .inl h
theorem order_step {es : List (ByteArray × List ByteArray)} {T : List ByteArray} {a : ByteArray} {r : List ByteArray} (hg : GoodL es (T ++ [a])) (ha : readyL es T = a :: r) : orderGo es (es.length - T.length) T = orderGo es (es.length - (T ++ [a]).length) (T ++ [a]) := by
  have hl := hg.len
  rw [List.length_append, List.length_singleton] at hl ⊢
  obtain ⟨n, hn⟩ : ∃ n, es.length - T.length = n + 1 := ⟨es.length - T.length - 1, by omega⟩
  rw [hn, show es.length - (T.length + 1) = n by omega]
  rw [orderGo, ha]
theorem order_end {es : List (ByteArray × List ByteArray)} {T : List ByteArray} (h : readyL es T = []) : ∀ n, orderGo es n T = T
  | 0 => rfl
  | n + 1 => by rw [orderGo, h]
end Go.Pal
