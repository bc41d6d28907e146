/-
  The law's 'same': a disk and the model of it.
-/
import Derived.Test.YtilddhemngcieaaMd3
import Derived.Deep.QuietTactic
import Derived.BigQuiet
namespace Go.Proofs.Ytilddhemngcieaa
open Go.RowKit Go.Pal Go.Pal.Dk
theorem m_neF {a : ByteArray} : (a.toList != a.toList) = false := by simp
set_option linter.unusedVariables false in
set_option maxHeartbeats 1000000 in
set_option maxRecDepth 100000 in
theorem same_any {w : World} {base D M : Nat} {d : Dk} {L : Lay} {v : Value} {left : Nat} (hd : DkAt w base D d L) (hm : MdAt w base M d v left) (hlen : d.files.length ≤ 1000000) :
    Calls Try.prog 29 #[.pointer (some ⟨D, 0, none⟩), .pointer (some ⟨M, 0, none⟩)] w fun e w' => e = .returned (.bool true) ∧ Below w.heap.size w w' := by
  have HN := Lib.hid (names_any hd (by omega))
  have HD := Lib.hid hd
  have HM := Lib.hid hm
  have hus : usedF d.files ≤ 4194304 := Nat.le_trans hd.good.used hd.good.room
  have HNM := Lib.hid hd.good.names
  have HST := Lib.hid hd.good.sorted
  clear hd hm
  go_enter Try.func29, Try.ntmps29
  go_wp2_with fail
  refine HN.out.mono ?_
  rintro e w1 ⟨⟨v1, rfl, hown1⟩, b1⟩
  have D1 := HD.out.below b1 (Nat.le_refl _)
  have M1 := HM.out.below b1 (Nat.le_refl _)
  obtain ⟨p1, cap1, rfl, hc1, hcm1⟩ := row_form hown1
  unfold maxLen at hcm1
  obtain ⟨p, cap, rfl, _, hcm, hb1, hp, hc⟩ := M1.open
  have m2 := M1.blk.cell 2
  simp only [List.getElem?_cons_zero, List.getElem?_cons_succ] at m2
  have HON := Lib.hid (fun (W' : World) (hh : W'.heap = w1.heap) => on_any (D1.keep (w' := W') (fun g _ => by rw [hh])))
  have HU := Lib.hid (fun (W' : World) (hh : W'.heap = w1.heap) => used_any (D1.keep (w' := W') (fun g _ => by rw [hh])))
  have HMU := Lib.hid (fun (W' : World) (hh : W'.heap = w1.heap) => mused_any (M1.keep (w' := W') (fun g _ => by rw [hh])) hus)
  have B1 := Lib.hid b1
  have O1 := Lib.hid hown1
  have DD := Lib.hid D1
  have HP := Lib.hid hp
  have HC := Lib.hid hc
  clear hp hc hown1 b1 D1 M1 HN HD HM
  have HRD := Lib.hid (show ∀ (W' : World) (hh : W'.heap = w1.heap) (k : Nat) (hk : k < d.files.length), Calls Try.prog 33 #[.pointer (some ⟨D, 0, none⟩), .string d.files[k].name] W' fun e w' => e = .returned (.tuple #[.string (if d.on then d.files[k].data else ByteArray.empty), .int .i64 (if d.on then 0 else 6)]) ∧ w' = W' by
    intro W' hh k hk
    have h0 := read_any (DD.out.keep (w' := W') (fun g _ => by rw [hh])) d.files[k].name (by have := HNM.out d.files[k] (List.getElem_mem hk); unfold maxLen; omega)
    have h1 : readD d d.files[k].name = (if d.on then d.files[k].data else ByteArray.empty, if d.on then 0 else 6) := by
      unfold readD
      cases hon : d.on
      · rw [if_pos rfl]; rfl
      · rw [if_neg (by decide), atF_mem HST.out (List.getElem_mem hk)]; rfl
    rw [h1] at h0; exact h0)
  obtain ⟨on, hon⟩ : ∃ on, d.on = on := ⟨_, rfl⟩
  rw [hon] at HON HRD m2
  clear hon
  go_wp2_with fail
  cases on
  · simp only [Bool.not_false] at m2
    go_quiet (first | (go_at_call 35; exact Calls.quiet_of_same (HON.out _ (by rfl))) | (go_at_call 37; exact Calls.quiet_of_same (HU.out _ (by rfl))) | (go_at_call 48; exact Calls.quiet_of_same (HMU.out _ (by rfl))))
    go_wp2
    go_loopw [6] (fun i wr => ∃ (k q : Nat), k ≤ d.files.length ∧ i = .int .i64 k ∧ wr = w1.drewN q) (fun i _ => d.files.length - (intOf i).toNat)
    case atStart => exact ⟨0, _, Nat.zero_le _, rfl, rfl⟩
    case round =>
      obtain ⟨k, q, hk, rfl, rfl⟩ := hrel
      by_cases hlt : k < d.files.length
      · obtain ⟨g, rfl⟩ := HP.out (by omega)
        obtain ⟨k0, k1, _⟩ := HC.out g rfl k hlt
        obtain ⟨g1, rfl⟩ : ∃ g, p1 = some ⟨g, 0, none⟩ := by
          rcases O1.out.2 with ⟨_, h0⟩ | ⟨g, cap', cur, e, _⟩
          · omega
          · cases e; exact ⟨g, rfl⟩
        obtain ⟨ck, _⟩ := own_cell O1.out k hlt
        rw [namesV_get d.files k hlt] at ck
        have HR := Lib.hid (fun (W' : World) (hh : W'.heap = w1.heap) => HRD.out W' hh k hlt)
        have ne1 := m_neF (a := d.files[k].name)
        have ne2 := m_neF (a := d.files[k].data)
        generalize d.files[k].name = nm at *
        generalize d.files[k].data = dt at *
        go_wp2_with fail
        go_quiet (fail)
        go_wp2_with fail
        refine (HR.out _ (by rfl)).mono ?_
        rintro e w8 ⟨rfl, rfl⟩
        simp only [Bool.false_eq_true, if_false]
        go_wp2
        go_roundw
        case rel => exact ⟨k + 1, _, by omega, by go_num, rfl⟩
        case measure => simp [intOf]; omega
      · go_wp2
        go_ret
        exact ⟨rfl, ⟨B1.out.os, B1.out.tape, B1.out.output, B1.out.size, B1.out.block⟩⟩
  · simp only [Bool.not_true] at m2
    go_quiet (first | (go_at_call 35; exact Calls.quiet_of_same (HON.out _ (by rfl))) | (go_at_call 37; exact Calls.quiet_of_same (HU.out _ (by rfl))) | (go_at_call 48; exact Calls.quiet_of_same (HMU.out _ (by rfl))))
    go_wp2
    go_loopw [6] (fun i wr => ∃ (k q : Nat), k ≤ d.files.length ∧ i = .int .i64 k ∧ wr = w1.drewN q) (fun i _ => d.files.length - (intOf i).toNat)
    case atStart => exact ⟨0, _, Nat.zero_le _, rfl, rfl⟩
    case round =>
      obtain ⟨k, q, hk, rfl, rfl⟩ := hrel
      by_cases hlt : k < d.files.length
      · obtain ⟨g, rfl⟩ := HP.out (by omega)
        obtain ⟨k0, k1, _⟩ := HC.out g rfl k hlt
        obtain ⟨g1, rfl⟩ : ∃ g, p1 = some ⟨g, 0, none⟩ := by
          rcases O1.out.2 with ⟨_, h0⟩ | ⟨g, cap', cur, e, _⟩
          · omega
          · cases e; exact ⟨g, rfl⟩
        obtain ⟨ck, _⟩ := own_cell O1.out k hlt
        rw [namesV_get d.files k hlt] at ck
        have HR := Lib.hid (fun (W' : World) (hh : W'.heap = w1.heap) => HRD.out W' hh k hlt)
        have ne1 := m_neF (a := d.files[k].name)
        have ne2 := m_neF (a := d.files[k].data)
        generalize d.files[k].name = nm at *
        generalize d.files[k].data = dt at *
        go_wp2_with fail
        go_quiet (fail)
        go_wp2_with fail
        refine (HR.out _ (by rfl)).mono ?_
        rintro e w8 ⟨rfl, rfl⟩
        simp only [if_true]
        go_wp2
        go_roundw
        case rel => exact ⟨k + 1, _, by omega, by go_num, rfl⟩
        case measure => simp [intOf]; omega
      · go_wp2
        go_ret
        exact ⟨rfl, ⟨B1.out.os, B1.out.tape, B1.out.output, B1.out.size, B1.out.block⟩⟩
end Go.Proofs.Ytilddhemngcieaa
