/-
  Contracts of package log: opened.
-/
import Derived.Test.YtffnkomnldgcaaaGreatDoorLg1
namespace Go.Proofs.YtffnkomnldgcaaaGreatDoor
open Go.RowKit Go.Pal Go.Pal.Dk Go.Pal.Fr Go.Pal.Cr

theorem sealL_app (l m : List ByteArray) : sealL (l ++ m) = sealL l ++ sealL m := by
  induction l with
  | nil => rw [List.nil_append, sealL_nil, empty_app]
  | cons x l ih => rw [List.cons_append, sealL_cons, sealL_cons, ih, app_assoc]
theorem ext_mid (x y : ByteArray) : (x ++ y).extract x.size (x ++ y).size = y := ext_right x y
/-- What is left of a text behind some of its records. -/
theorem left_at (rs : List ByteArray) (tl : ByteArray) (j : Nat) : (sealL rs ++ tl).extract (sealL (rs.take j)).size (sealL rs ++ tl).size = sealL (rs.drop j) ++ tl ∧ (sealL (rs.take j)).size ≤ (sealL rs ++ tl).size := by
  have e : sealL rs ++ tl = sealL (rs.take j) ++ (sealL (rs.drop j) ++ tl) := by
    rw [← app_assoc, ← sealL_app, List.take_append_drop]
  rw [e]
  exact ⟨ext_mid _ _, by rw [ByteArray.size_append]; omega⟩
theorem open_at (rs : List ByteArray) (tl : ByteArray) (j : Nat) (hj : j < rs.length) (hr : rs[j].size ≤ 65535) : openV (sealL (rs.drop j) ++ tl) = .tuple #[.string rs[j], .int .i64 ((8 + rs[j].size : Nat) : Int), .bool true] := by
  have e : sealL (rs.drop j) ++ tl = sealB rs[j] ++ (sealL (rs.drop (j + 1)) ++ tl) := by
    rw [List.drop_eq_getElem_cons hj, sealL_cons, app_assoc]
  obtain ⟨h1, h2, _⟩ := open_there rs[j] (sealL (rs.drop (j + 1)) ++ tl) hr
  rw [e, openV_yes h1, h2]
theorem seal_step (rs : List ByteArray) (j : Nat) (hj : j < rs.length) : (sealL (rs.take (j + 1))).size = (sealL (rs.take j)).size + (8 + rs[j].size) := by
  rw [List.take_succ_eq_append_getElem hj, sealL_snoc, ByteArray.size_append, sealB_size]

set_option maxHeartbeats 1000000 in
set_option maxRecDepth 100000 in
theorem opened_any (w : World) (base : Nat) (v : Value) (l rs : List ByteArray) (tl : ByteArray) (hv : QR w 9 base v l) (hbase : base ≤ w.heap.size) (hrs : ∀ r ∈ rs, r.size ≤ 65535) (hbad : opOk tl = false)
    (hsz : (sealL rs ++ tl).size ≤ 1000000000) (hlen : l.length + rs.length ≤ 1000000) :
    Calls Tryz.prog 48 #[v, .string (sealL rs ++ tl)] w fun e w' => ∃ v', e = .returned (.tuple #[v', .int .i64 ((sealL rs).size : Int)]) ∧ QR w' 9 base v' (l ++ rs) ∧ Off (fun g => v.ownBlock = some g) w w' ∧ ∀ b, v'.ownBlock = some b → v.ownBlock = some b ∨ w.heap.size ≤ b := by
  obtain ⟨i0, I0, Z0, Z1, Z2⟩ : ∃ i : TypeInfo, Tryz.prog.info? 9 = some i ∧ i.zero = some (.string ⟨#[]⟩) ∧ i.size = 1 ∧ i.bytes = 16 := ⟨_, rfl, rfl, rfl, rfl⟩
  have HI := Lib.hid I0
  have HZ0 := Lib.hid Z0
  have HZ1 := Lib.hid Z1
  have HZ2 := Lib.hid Z2
  clear I0 Z0 Z1 Z2
  have HO := Lib.hid (show ∀ (W : World) (j : Nat), j ≤ rs.length → Calls Tryz.prog 63 #[.string ((sealL rs ++ tl).extract (sealL (rs.take j)).size (sealL rs ++ tl).size)] W fun e w' => e = .returned (openV (sealL (rs.drop j) ++ tl)) ∧ Below W.heap.size W w' by
    intro W j _
    rw [(left_at rs tl j).1]
    exact open_any _ (by have h2 := left_at rs tl j; rw [← h2.1, ByteArray.size_extract]; omega) W)
  have HLE := Lib.hid (fun j => (left_at rs tl j).2)
  have HRS := Lib.hid hrs
  have HBAD := Lib.hid hbad
  have HV := Lib.hid hv
  have HST := Lib.hid (seal_step rs)
  have HAT := Lib.hid (open_at rs tl)
  have HEND := Lib.hid (show openV (sealL (rs.drop rs.length) ++ tl) = .tuple #[.string ByteArray.empty, .int .i64 0, .bool false] by rw [List.drop_length, sealL_nil, empty_app]; exact openV_no hbad)
  have HFULL := Lib.hid (show sealL (rs.take rs.length) = sealL rs by rw [List.take_length])
  have hlow : ∀ j, (sealL (rs.take j)).size ≤ 1000000000 := fun j => Nat.le_trans (left_at rs tl j).2 hsz
  have HLOW := Lib.hid hlow
  clear hrs hbad hv hlow
  generalize sealL rs ++ tl = T at *
  go_enter Tryz.func48, Tryz.ntmps48
  go_wp2
  go_loopw [0, 6] (fun r g wr => ∃ j : Nat, j ≤ rs.length ∧ g = .int .i64 ((sealL (rs.take j)).size : Int) ∧ QR wr 9 base r (l ++ rs.take j) ∧ Off (fun g => v.ownBlock = some g) w wr ∧ ∀ b, r.ownBlock = some b → v.ownBlock = some b ∨ w.heap.size ≤ b) (fun r g _ => T.size + 1 - (intOf g).toNat)
  case atStart => exact ⟨0, Nat.zero_le _, by simp [sealL_nil], by simpa using HV.out, Off.refl _ _, fun b hb => .inl hb⟩
  case round =>
    obtain ⟨j, hj, rfl, hq, ho, hat⟩ := hrel
    have hle := HLE.out j
    have hlow := HLOW.out j
    have HC := Lib.hid (fun W => HO.out W j hj)
    have HQ := Lib.hid hq
    have HOF := Lib.hid ho
    have HATB := Lib.hid hat
    clear hq ho hat
    by_cases hlt : j < rs.length
    · have hst := HST.out j hlt
      have hle2 := HLE.out (j + 1)
      rw [HAT.out j hlt (HRS.out _ (List.getElem_mem hlt))] at HC
      have hsr := HRS.out _ (List.getElem_mem hlt)
      have HTK := Lib.hid (show l ++ rs.take (j + 1) = l ++ rs.take j ++ [rs[j]] by rw [List.take_succ_eq_append_getElem hlt, List.append_assoc])
      generalize rs[j] = r at *
      have HSTP := Lib.hid (show (sealL (rs.take j)).size + (8 + r.size) = (sealL (rs.take (j + 1))).size ∧ (sealL (rs.take (j + 1))).size ≤ T.size from ⟨hst.symm, hle2⟩)
      have hle3 : (sealL (rs.take j)).size + (8 + r.size) ≤ T.size := by omega
      generalize hz : (sealL (rs.take j)).size = z at *
      clear hst hle2 hz
      go_wp2_with fail
      refine (HC.out _).mono ?_
      rintro e w1 ⟨rfl, b1⟩
      have Q1 := Lib.hid (HQ.out.below b1 (Nat.le_refl _))
      have HB1 := Lib.hid (show base ≤ w1.heap.size from Nat.le_trans hbase (Nat.le_trans HOF.out.size b1.size))
      have HL1 := Lib.hid (show (l ++ rs.take j).length ≤ 1000000000 by rw [List.length_append, List.length_take]; omega)
      have QA := Lib.hid ((Q1.out).keep (w' := w1.alloc (.cells #[.string r] 9)) (fun g hg => heap_alloc_old w1 _ (Q1.out.lt hg).1))
      have HN1 := Lib.hid (one_new w1 9 r)
      have HB2 := Lib.hid (show base ≤ (w1.alloc (.cells #[.string r] 9)).heap.size by have := HB1.out; simp; omega)
      have HO1 := Lib.hid (HOF.out.trans (Off.of_new b1 (fun g => v.ownBlock = some g)) (fun _ _ h => h))
      have O2 := Lib.hid (HO1.out.alloc (.cells #[.string r] 9))
      have hz2 : w1.heap.size < (w1.alloc (.cells #[.string r] 9)).heap.size := by simp
      have HSZ := Lib.hid hz2
      have HW1 := Lib.hid (show w.heap.size ≤ w1.heap.size from HO1.out.size)
      clear b1 hz2
      go_wp2_with (at_builtin; refine wpList_append_q _ rfl _ _ 34 rfl base 9 i0 Tryz.underlying34 HI.out HZ0.out HZ1.out HZ2.out _ (l ++ rs.take j) rfl QA.out ⟨w1.heap.size, 0, none⟩ 1 r rfl HN1.out HL1.out HB2.out ?_)
      intro v2 w2 q2 g2 a2
      have O3 := Lib.hid (O2.out.trans (Off.of_grown g2) (fun g hg h => by
        rcases HATB.out g h with h1 | h1
        · exact h1
        · omega))
      have A3 := Lib.hid (show ∀ b, v2.ownBlock = some b → v.ownBlock = some b ∨ w.heap.size ≤ b from fun b hb => by
        rcases a2 b hb with h1 | h1
        · exact HATB.out b h1
        · have := HSZ.out; have := HW1.out; exact .inr (by omega))
      have Q3 := Lib.hid q2
      clear q2 g2 a2
      go_wp2
      go_roundw
      case rel => exact ⟨j + 1, hlt, by rw [← HSTP.out.1]; congr 1, by rw [HTK.out, List.append_assoc]; exact Q3.out, O3.out, A3.out⟩
      case measure =>
        have := HSTP.out
        simp [intOf]; omega
    · obtain rfl : j = rs.length := by omega
      rw [HEND.out] at HC
      generalize hz : (sealL (rs.take rs.length)).size = z at *
      have HZZ := Lib.hid hz
      clear hz
      go_wp2_with fail
      refine (HC.out _).mono ?_
      rintro e w1 ⟨rfl, b1⟩
      have Q1 := Lib.hid (HQ.out.below b1 (Nat.le_refl _))
      have O1 := Lib.hid (HOF.out.trans (Off.of_new b1 (fun g => v.ownBlock = some g)) (fun _ _ h => h))
      clear b1
      go_wp2
      go_ret2
      refine ⟨_, by rw [← HFULL.out, HZZ.out]; rfl, ?_, O1.out, HATB.out⟩
      have := Q1.out
      rwa [List.take_length] at this
end Go.Proofs.YtffnkomnldgcaaaGreatDoor
