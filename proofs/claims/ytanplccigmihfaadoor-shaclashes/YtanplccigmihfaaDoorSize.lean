/-
  Contract of the law's own size of texts.
-/
import Derived.Test.YtanplccigmihfaaDoorIn2
namespace Go.Proofs.YtanplccigmihfaaDoor
open Go.RowKit Go.Pal

def totM (ps : List ByteArray) : Nat := (ps.map fun p => min p.size 2000 + 4).sum
theorem totM_take (ps : List ByteArray) (k : Nat) (h : k < ps.length) : totM (ps.take (k + 1)) = totM (ps.take k) + (min (ps.getD k ByteArray.empty).size 2000 + 4) := by
  have e : ps.getD k ByteArray.empty = ps[k] := by simp [h]
  rw [e, List.take_succ_eq_append_getElem h, totM, List.map_append, List.sum_append]
  simp [totM]
theorem totM_small : ∀ (ps : List ByteArray), totM ps ≤ 2000 → totL ps = totM ps ∧ ps.length ≤ totM ps
  | [], _ => ⟨rfl, Nat.zero_le _⟩
  | p :: ps, h => by
    have e1 : totM (p :: ps) = (min p.size 2000 + 4) + totM ps := by simp [totM]
    have e2 : totL (p :: ps) = (4 + p.size) + totL ps := by simp [totL]
    obtain ⟨h1, h2⟩ := totM_small ps (by omega)
    rw [e1] at h ⊢
    rw [e2, h1, List.length_cons]
    constructor <;> omega

set_option maxHeartbeats 400000 in
theorem size_any (w : World) (a : Option Addr) (cap : Nat) (ss : List ByteArray) (hss : StrRow w a ss) (hlen : ss.length ≤ maxLen) (hsz : ∀ s ∈ ss, s.size ≤ maxLen) :
    Calls Tryd.prog 5 #[.slice a ss.length cap] w fun e w' => (∃ n : Nat, e = .returned (.int .i64 n) ∧ n ≤ 4004 ∧ (n ≤ 2000 → totL ss = n ∧ ss.length ≤ n)) ∧ w = w' := by
  unfold maxLen at hlen
  have HSS := Lib.hid hss
  have HSZ := Lib.hid hsz
  clear hss hsz
  go_enter Tryd.func5, Tryd.ntmps5
  go_wp2
  go_loop [3, 4] (fun n i => ∃ k m : Nat, k ≤ ss.length ∧ i = .int .i64 k ∧ n = .int .i64 m ∧ m = totM (ss.take k) ∧ m ≤ 4004) (fun _ i => ss.length - (intOf i).toNat)
  case atStart => exact ⟨0, 0, Nat.zero_le _, rfl, rfl, rfl, by omega⟩
  case round =>
    obtain ⟨k, m, hk, rfl, rfl, hm, hmb⟩ := hrel
    have HM := Lib.hid hm
    clear hm
    by_cases hlt : k < ss.length
    · by_cases hle : m ≤ 2000
      · have hst := totM_take ss k hlt
        have hps : (ss.getD k ByteArray.empty).size ≤ maxLen := by
          have e : ss.getD k ByteArray.empty = ss[k] := by simp [hlt]
          rw [e]; exact HSZ.out _ (List.getElem_mem _)
        unfold maxLen at hps
        rcases HSS.out with h0 | ⟨b, off, rfl, hbl, hc⟩
        · rw [h0] at hlt; simp at hlt
        have c0 := hc k hlt
        have HST := Lib.hid hst
        generalize ss.getD k ByteArray.empty = p at *
        clear hst hc
        have hd : decide ((m : Int) ≤ 2000) = true := by simp; omega
        by_cases hp : p.size ≤ 2000
        · have hmn : min p.size 2000 = p.size := Nat.min_eq_left hp
          have HMN := Lib.hid hmn
          clear hmn
          go_wp2
          go_round
          case rel =>
            refine ⟨k + 1, m + (p.size + 4), by omega, by go_num, ?_, by rw [HST.out, HMN.out, ← HM.out], by omega⟩
            go_num
          case measure => simp [intOf]; omega
        · have hmn : min p.size 2000 = 2000 := Nat.min_eq_right (by omega)
          have HMN := Lib.hid hmn
          clear hmn
          go_wp2
          go_round
          case rel =>
            refine ⟨k + 1, m + (2000 + 4), by omega, by go_num, ?_, by rw [HST.out, HMN.out, ← HM.out], by omega⟩
            go_num
          case measure => simp [intOf]; omega
      · have hd : decide ((m : Int) ≤ 2000) = false := by simp; omega
        go_wp2
        go_ret
        exact ⟨⟨m, rfl, hmb, fun h => absurd h hle⟩, rfl⟩
    · obtain rfl : k = ss.length := by omega
      go_wp2
      go_ret
      refine ⟨⟨m, rfl, hmb, fun h => ?_⟩, rfl⟩
      have e := HM.out
      rw [List.take_length] at e
      rw [e] at h ⊢
      exact totM_small ss h

end Go.Proofs.YtanplccigmihfaaDoor
