/-
  Layer 12: Add, where it is refused.
-/
import Derived.Test.YtabongfoeoideaaDg2
import Derived.Test.YtabongfoeoideaaDv4
namespace Go.Pal
open Go.RowKit
/-- What Add answers. -/
def addC (es : List (ByteArray × List ByteArray)) (id : ByteArray) (ps : List ByteArray) : Int :=
  if id.size = 0 ∨ 64 < id.size then 1 else if (lookE es id).isSome then 11 else if 300 ≤ es.length then 3 else if ps.all (fun p => (lookE es p).isSome) then 0 else 9
def entOf (id : ByteArray) (ps : List ByteArray) : ByteArray × List ByteArray := (id, ps)
def addE (es : List (ByteArray × List ByteArray)) (id : ByteArray) (ps : List ByteArray) : List (ByteArray × List ByteArray) := if addC es id ps = 0 then es ++ [entOf id (riseL ps)] else es
end Go.Pal
namespace Go.Proofs.Ytabongfoeoideaa
open Go.RowKit Go.Pal
set_option linter.unusedVariables false

theorem not_empty {n : ByteArray} (h : n.size ≠ 0) : n.toList ≠ [] ∧ n.toList.isEmpty = false := by
  have e : n.toList = n.data.toList := ByteArray.toList_eq n
  have h1 : n.toList ≠ [] := fun hh => h (by
    rw [e] at hh
    have : n.data.toList.length = 0 := by rw [hh]; rfl
    simpa using this)
  refine ⟨h1, ?_⟩
  cases hl : n.toList with
  | nil => exact absurd hl h1
  | cons _ _ => rfl

set_option maxHeartbeats 1000000 in
theorem dadd_nil (id : ByteArray) (a : Option Addr) (n cap : Nat) (w : World) :
    Calls Try.prog 14 #[.pointer none, .string id, .slice a n cap] w fun e w' => e = .returned (.int .i64 1) ∧ w' = w := by
  go_enter Try.func14, Try.ntmps14
  go_wp2
  go_ret
  exact ⟨rfl, rfl⟩
set_option maxHeartbeats 1000000 in
theorem dadd_arg (G : Nat) (id : ByteArray) (h : id.size = 0 ∨ 64 < id.size) (a : Option Addr) (n cap : Nat) (w : World) :
    Calls Try.prog 14 #[.pointer (some ⟨G, 0, none⟩), .string id, .slice a n cap] w fun e w' => e = .returned (.int .i64 1) ∧ w' = w := by
  by_cases h0 : id.size = 0
  · obtain rfl : id = ⟨#[]⟩ := by
      rw [ByteArray.ext_iff]; exact Array.eq_empty_of_size_eq_zero h0
    go_enter Try.func14, Try.ntmps14
    go_wp2
    go_ret
    exact ⟨rfl, rfl⟩
  · have h64 : 64 < id.size := by omega
    obtain ⟨e1, e2⟩ := not_empty h0
    have d1 : decide (64 < (id.size : Int)) = true := decide_eq_true (by omega)
    clear h h0 h64
    go_enter Try.func14, Try.ntmps14
    go_wp2
    go_ret
    exact ⟨rfl, rfl⟩
set_option maxHeartbeats 1000000 in
theorem dadd_twice {w : World} {base G : Nat} {m : Option Nat} {mv : ByteArray → Value} {es : List (ByteArray × List ByteArray)} (h : DagAt w base G m mv es) (id : ByteArray) (h0 : id.size ≠ 0) (h64 : id.size ≤ 64) (ht : (lookE es id).isSome = true) (a : Option Addr) (n cap : Nat) :
    Calls Try.prog 14 #[.pointer (some ⟨G, 0, none⟩), .string id, .slice a n cap] w fun e w' => e = .returned (.int .i64 11) ∧ w' = w := by
  obtain ⟨e1, e2⟩ := not_empty h0
  have d1 : decide (64 < (id.size : Int)) = false := decide_eq_false (by omega)
  have HH := Lib.hid (dhas_at h (s := id) (by unfold maxLen; omega))
  rw [ht] at HH
  clear h h0 h64 ht
  go_enter Try.func14, Try.ntmps14
  go_wp2_with (go_at_call 15; refine HH.out.mono ?_; rintro e w' ⟨rfl, e9⟩; rw [e9]; clear e9 w')
  go_ret
  exact ⟨rfl, rfl⟩
set_option maxHeartbeats 1000000 in
theorem dadd_long {w : World} {base G : Nat} {m : Option Nat} {mv : ByteArray → Value} {es : List (ByteArray × List ByteArray)} (h : DagAt w base G m mv es) (id : ByteArray) (h0 : id.size ≠ 0) (h64 : id.size ≤ 64) (ht : (lookE es id).isSome = false) (hl : 300 ≤ es.length) (a : Option Addr) (n cap : Nat) :
    Calls Try.prog 14 #[.pointer (some ⟨G, 0, none⟩), .string id, .slice a n cap] w fun e w' => e = .returned (.int .i64 3) ∧ w' = w := by
  obtain ⟨e1, e2⟩ := not_empty h0
  have d1 : decide (64 < (id.size : Int)) = false := decide_eq_false (by omega)
  have d2 : decide (300 ≤ (es.length : Int)) = true := decide_eq_true (by omega)
  have HH := Lib.hid (dhas_at h (s := id) (by unfold maxLen; omega))
  have HL := Lib.hid (dlen_at h)
  rw [ht] at HH
  clear h h0 h64 ht hl
  go_enter Try.func14, Try.ntmps14
  go_wp2_with (first | (go_at_call 15; refine HH.out.mono ?_; rintro e w' ⟨rfl, e9⟩; rw [e9]; clear e9 w') | (go_at_call 17; refine HL.out.mono ?_; rintro e w' ⟨rfl, e9⟩; rw [e9]; clear e9 w'))
  go_ret
  exact ⟨rfl, rfl⟩
set_option maxHeartbeats 2000000 in
theorem dadd_missing {w : World} {base G : Nat} {m : Option Nat} {mv : ByteArray → Value} {es : List (ByteArray × List ByteArray)} (h : DagAt w base G m mv es) (id : ByteArray) (h0 : id.size ≠ 0) (h64 : id.size ≤ 64) (ht : (lookE es id).isSome = false) (hl : es.length < 300) {a : Option Addr} {ps : List ByteArray} (cap : Nat) (hr : StrRow w a ps) (hlen : ps.length ≤ 1000000) (hps : ∀ s ∈ ps, s.size ≤ maxLen) (hm : ps.all (fun p => (lookE es p).isSome) = false) :
    Calls Try.prog 14 #[.pointer (some ⟨G, 0, none⟩), .string id, .slice a ps.length cap] w fun e w' => e = .returned (.int .i64 9) ∧ w' = w := by
  obtain ⟨e1, e2⟩ := not_empty h0
  have hnot : ∀ (x : Bool) (w : World), (Op.unary .not (.bool x)).run Try.prog w = .ok (.bool (!x)) w := fun _ _ => rfl
  have d1 : decide (64 < (id.size : Int)) = false := decide_eq_false (by omega)
  have d2 : decide (300 ≤ (es.length : Int)) = false := decide_eq_false (by omega)
  have HH := Lib.hid (dhas_at h (s := id) (by unfold maxLen; omega))
  have HL := Lib.hid (dlen_at h)
  have HP := Lib.hid (fun k (hk : k < ps.length) => dhas_at h (s := ps[k]) (hps _ (List.getElem_mem hk)))
  have HR := Lib.hid (fun h0 => sRow_some hr h0)
  have HM := Lib.hid (show ¬ ∀ k (hk : k < ps.length), (lookE es ps[k]).isSome = true from fun hh => by
    have : ps.all (fun p => (lookE es p).isSome) = true := List.all_eq_true.2 (fun p hp => by obtain ⟨k, hk, rfl⟩ := List.mem_iff_getElem.1 hp; exact hh k hk)
    rw [hm] at this; cases this)
  rw [ht] at HH
  clear h h0 h64 ht hl hr hps hm
  go_enter Try.func14, Try.ntmps14
  go_wp2_with (first | (go_at_call 15; refine HH.out.mono ?_; rintro e w' ⟨rfl, e9⟩; rw [e9]; clear e9 w') | (go_at_call 17; refine HL.out.mono ?_; rintro e w' ⟨rfl, e9⟩; rw [e9]; clear e9 w'))
  go_loop [28] (fun i => ∃ k : Nat, k ≤ ps.length ∧ i = .int .i64 k ∧ ∀ j (hj : j < ps.length), j < k → (lookE es ps[j]).isSome = true) (fun i => ps.length - (intOf i).toNat)
  case atStart => exact ⟨0, Nat.zero_le _, rfl, fun j _ hj => absurd hj (Nat.not_lt_zero _)⟩
  case round =>
    obtain ⟨k, hk, rfl, hall⟩ := hrel
    have HA := Lib.hid hall
    clear hall HH
    by_cases hlt : k < ps.length
    · obtain ⟨b, off, rfl, _, hc⟩ := HR.out (by omega)
      have ck := hc k hlt
      have HPK := Lib.hid (HP.out k hlt)
      have HAK := Lib.hid (fun (e : (lookE es ps[k]).isSome = true) j (hj : j < ps.length) (h1 : j < k + 1) => show (lookE es ps[j]).isSome = true by
        by_cases hjk : j = k
        · subst hjk; exact e
        · exact HA.out j hj (by omega))
      clear hc
      generalize ps[k] = x at *
      cases hx : (lookE es x).isSome with
      | true =>
        rw [hx] at HPK
        have HN := Lib.hid (HAK.out hx)
        clear hx HAK
        go_wp2_with (go_at_call 15; refine HPK.out.mono ?_; rintro e w' ⟨rfl, e9⟩; rw [e9]; clear e9 w')
        go_round
        case rel => exact ⟨k + 1, by omega, by go_num, HN.out⟩
        case measure => simp [intOf]; omega
      | false =>
        rw [hx] at HPK
        clear hx HAK
        go_wp2_with (go_at_call 15; refine HPK.out.mono ?_; rintro e w' ⟨rfl, e9⟩; rw [e9]; clear e9 w')
        go_ret
        exact ⟨rfl, rfl⟩
    · exact absurd (fun j hj => HA.out j hj (by omega)) HM.out
end Go.Proofs.Ytabongfoeoideaa
