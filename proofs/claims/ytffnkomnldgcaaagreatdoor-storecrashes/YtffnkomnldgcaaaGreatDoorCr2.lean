/-
  Contracts of crc.Sealed and crc.Open.
-/
import Derived.Test.YtffnkomnldgcaaaGreatDoorCr1
import Derived.Test.YtffnkomnldgcaaaGreatDoorF1
import Derived.Test.YtffnkomnldgcaaaGreatDoorOct3
namespace Go.Pal.Cr
open Go.Pal Go.Pal.Fr

/-- Bytes with their length and sum ahead. -/
def sealB (s : ByteArray) : ByteArray := be 4 s.size ++ be 4 (moreB 0#32 s).toNat ++ s
theorem sealB_size (s : ByteArray) : (sealB s).size = 8 + s.size := by
  rw [sealB, ByteArray.size_append, ByteArray.size_append, be_size, be_size]
/-- What a reader takes of something sealed. -/
def opN (s : ByteArray) : Nat × St := numS 4 (some s)
def opC (s : ByteArray) : Nat × St := numS 4 (opN s).2
def opT (s : ByteArray) : ByteArray × St := takeS (opN s).1 (opC s).2
def opOk (s : ByteArray) : Bool := decide ((opN s).1 ≤ 65535) && (Go.Proofs.YtffnkomnldgcaaaGreatDoor.goodS (opT s).2 && decide ((moreB 0#32 (opT s).1).toNat = (opC s).1))
/-- What is sealed is opened. -/
theorem open_there (s y : ByteArray) (h : s.size ≤ 65535) : opOk (sealB s ++ y) = true ∧ (opT (sealB s ++ y)).1 = s ∧ (opT (sealB s ++ y)).2 = some y := by
  have hc := (moreB 0#32 s).isLt
  have e : sealB s ++ y = be 4 s.size ++ (be 4 (moreB 0#32 s).toNat ++ (s ++ y)) := by rw [sealB, app_assoc, app_assoc]
  have a1 : opN (sealB s ++ y) = (s.size, some (be 4 (moreB 0#32 s).toNat ++ (s ++ y))) := by rw [opN, e]; exact numS_app 4 s.size _ (by simp; omega)
  have a2 : opC (sealB s ++ y) = ((moreB 0#32 s).toNat, some (s ++ y)) := by rw [opC, a1]; exact numS_app 4 _ _ (by simpa using hc)
  have a3 : opT (sealB s ++ y) = (s, some y) := by rw [opT, a1, a2]; exact takeS_app s y _ rfl
  refine ⟨?_, by rw [a3], by rw [a3]⟩
  unfold opOk
  rw [a1, a2, a3]
  simp [h, Go.Proofs.YtffnkomnldgcaaaGreatDoor.goodS]
/-- What is opened was sealed. -/
theorem open_back (s : ByteArray) (h : opOk s = true) : ∃ y, (opT s).2 = some y ∧ s = sealB (opT s).1 ++ y ∧ (opT s).1.size ≤ 65535 := by
  unfold opOk at h
  simp only [Bool.and_eq_true, decide_eq_true_eq] at h
  obtain ⟨h1, h2, h3⟩ := h
  cases hy : (opT s).2 with
  | none => rw [hy] at h2; cases h2
  | some y =>
    refine ⟨y, rfl, ?_⟩
    obtain ⟨b1, b2⟩ := takeS_some (show (takeS (opN s).1 (opC s).2).2 = some y from hy)
    obtain ⟨b3, b4⟩ := numS_some (show (numS 4 (opN s).2).2 = some _ from b1)
    obtain ⟨b5, b6⟩ := numS_some (show (numS 4 (some s)).2 = some _ from b3)
    have b7 : s = _ := Option.some.inj b5
    have e1 : (opT s).1.size = (opN s).1 := b2
    refine ⟨?_, by omega⟩
    rw [sealB, e1, h3, app_assoc, app_assoc]
    exact b7
/-- A beginning of what is sealed isn't something sealed. -/
theorem open_cut (s : ByteArray) (n : Nat) (h : s.size ≤ 65535) (hn : n < (sealB s).size) : opOk ((sealB s).extract 0 n) = false := by
  cases ho : opOk ((sealB s).extract 0 n)
  · rfl
  · exfalso
    obtain ⟨y, h1, h2, h3⟩ := open_back _ ho
    generalize (opT ((sealB s).extract 0 n)).1 = t at *
    have hz : ((sealB s).extract 0 n).size = n := by rw [ByteArray.size_extract]; omega
    have e1 : sealB t ++ (y ++ (sealB s).extract n (sealB s).size) = sealB s ++ ByteArray.empty := by
      rw [← app_assoc, ← h2, ext_app _ _ (by omega), app_empty]
    obtain ⟨_, a1, a2⟩ := open_there t (y ++ (sealB s).extract n (sealB s).size) h3
    obtain ⟨_, b1, b2⟩ := open_there s ByteArray.empty h
    rw [e1] at a1 a2
    have hts : t = s := a1.symm.trans b1
    subst hts
    have hl := congrArg ByteArray.size h2
    rw [hz, ByteArray.size_append] at hl
    omega
end Go.Pal.Cr
namespace Go.Proofs.YtffnkomnldgcaaaGreatDoor
open Go.RowKit Go.Pal Go.Pal.Fr Go.Pal.Cr

theorem longOf (n : Nat) (h : n < 4294967296) (w : World) :
    Calls Tryz.prog 71 #[.int .i64 n] w fun e w' => e = .returned (.tuple #[.string (be 4 n), .bool true]) ∧ Below w.heap.size w w' := by
  have h1 := long_any n (by omega) w
  have hk := numOk_yes (k := 4) (n := (n : Int)) (by omega) (by simp; omega)
  rw [numB_yes hk, hk, Int.toNat_natCast] at h1
  exact h1
theorem v_nat (x : BitVec 32) : v x = (x.toNat : Int) := rfl

set_option maxHeartbeats 400000 in
set_option maxRecDepth 100000 in
theorem sealed_yes (s : ByteArray) (hs : s.size ≤ 65535) (w : World) :
    Calls Tryz.prog 57 #[.string s] w fun e w' => e = .returned (.tuple #[.string (sealB s), .bool true]) ∧ Below w.heap.size w w' := by
  have HL := Lib.hid (fun w => longOf s.size (by omega) w)
  have HC := Lib.hid (fun w => longOf (moreB 0#32 s).toNat (moreB 0#32 s).isLt w)
  have HS := Lib.hid (fun w => sum_crc s (by unfold maxLen; omega) w)
  have h1 := (moreB 0#32 s).isLt
  have d1 : decide (65535 < (s.size : Int)) = false := decide_eq_false (by omega)
  unfold sealB
  rw [v_nat] at HS
  generalize (moreB 0#32 s).toNat = c at *
  have z1 : (be 4 s.size).size = 4 := be_size _ _
  have z2 : (be 4 c).size = 4 := be_size _ _
  go_enter Tryz.func57, Tryz.ntmps57
  go_wp2_with fail
  refine (HL.out _).mono ?_
  rintro e w1 ⟨rfl, b1⟩
  go_wp2_with fail
  refine (HS.out _).mono ?_
  rintro e w2 ⟨rfl, rfl⟩
  go_wp2_with fail
  refine (HC.out _).mono ?_
  rintro e w3 ⟨rfl, b3⟩
  go_wp2
  go_ret2
  exact ⟨rfl, b1.trans (b3.mono b1.size)⟩

set_option maxHeartbeats 400000 in
set_option maxRecDepth 100000 in
theorem sealed_no (s : ByteArray) (hs : 65535 < s.size) (w : World) :
    Calls Tryz.prog 57 #[.string s] w fun e w' => e = .returned (.tuple #[.string ByteArray.empty, .bool false]) ∧ w' = w := by
  have d1 : decide (65535 < (s.size : Int)) = true := decide_eq_true (by omega)
  go_enter Tryz.func57, Tryz.ntmps57
  go_wp2
  go_ret2
  exact ⟨rfl, rfl⟩

theorem numS_lt4 (st : St) : (numS 4 st).1 < 4294967296 := by
  have h := valL_lt (takeS 4 st).1.data.toList
  have h2 : (takeS 4 st).1.data.toList.length ≤ 4 := by
    have : (takeS 4 st).1.size ≤ 4 := by
      unfold takeS
      split
      · decide
      · split
        · rw [ByteArray.size_extract]; omega
        · decide
    simpa using this
  have h3 : 256 ^ (takeS 4 st).1.data.toList.length ≤ 256 ^ 4 := Nat.pow_le_pow_right (by decide) h2
  show valL (takeS 4 st).1.data.toList < 4294967296
  omega
theorem RdO.of_grown {w w' : World} {b : Nat} {st : St} (h : RdO w b st) (e : w'.heap[b]? = w.heap[b]?) : RdO w' b st := by
  cases st with
  | none => exact ⟨(World.cell?_of_block e).trans h.c0, (World.cell?_of_block e).trans h.c1, (World.frozen?_of_block e).trans h.f0, (World.frozen?_of_block e).trans h.f1⟩
  | some r => exact ⟨(World.cell?_of_block e).trans h.c0, (World.cell?_of_block e).trans h.c1, (World.frozen?_of_block e).trans h.f0, (World.frozen?_of_block e).trans h.f1⟩
def openV (s : ByteArray) : Value := if opOk s = true then .tuple #[.string (opT s).1, .int .i64 ((8 + (opT s).1.size : Nat) : Int), .bool true] else .tuple #[.string ByteArray.empty, .int .i64 0, .bool false]
theorem openV_yes {s : ByteArray} (h : opOk s = true) : openV s = .tuple #[.string (opT s).1, .int .i64 ((8 + (opT s).1.size : Nat) : Int), .bool true] := by simp [openV, h]
theorem openV_no {s : ByteArray} (h : opOk s = false) : openV s = .tuple #[.string ByteArray.empty, .int .i64 0, .bool false] := by simp [openV, h]
theorem left_of (s : ByteArray) (h : opOk s = true) : (s.size : Int) - (stSize (opT s).2 : Nat) = ((8 + (opT s).1.size : Nat) : Int) ∧ stSize (opT s).2 ≤ s.size := by
  obtain ⟨y, h1, h2, _⟩ := open_back s h
  have e := congrArg ByteArray.size h2
  rw [ByteArray.size_append, sealB_size] at e
  rw [h1]
  show (s.size : Int) - (y.size : Nat) = _ ∧ y.size ≤ _
  omega

set_option maxHeartbeats 1000000 in
set_option maxRecDepth 100000 in
theorem open_any (s : ByteArray) (hs : s.size ≤ 1000000000) (w : World) :
    Calls Tryz.prog 63 #[.string s] w fun e w' => e = .returned (openV s) ∧ Below w.heap.size w w' := by
  have hz1 : stSize (opN s).2 ≤ s.size := takeS_size 4 (some s)
  have hz2 : stSize (opC s).2 ≤ s.size := Nat.le_trans (takeS_size 4 (opN s).2) hz1
  have hz3 : (opT s).1.size ≤ s.size := Nat.le_trans (takeS_out (opN s).1 (opC s).2) hz2
  have HR := Lib.hid (fun w => read_any s w)
  have HN := Lib.hid (fun (W : World) (b : Nat) (h : RdO W b (some s)) => long_o W b (some s) h (by show s.size ≤ _; omega))
  have HC := Lib.hid (fun (W : World) (b : Nat) (h : RdO W b (opN s).2) => long_o W b (opN s).2 h (by omega))
  have HT := Lib.hid (fun (W : World) (b : Nat) (h : RdO W b (opC s).2) => take_o (opN s).1 W b (opC s).2 h (by omega))
  have HG := Lib.hid (fun (W : World) (b : Nat) (h : RdO W b (opT s).2) => good_o W b (opT s).2 h)
  have HLF := Lib.hid (fun (W : World) (b : Nat) (h : RdO W b (opT s).2) => left_o W b (opT s).2 h)
  have HS := Lib.hid (fun (W : World) => sum_crc (opT s).1 (by unfold maxLen; omega) W)
  have hn : (opN s).1 < 4294967296 := numS_lt4 _
  have hc : (opC s).1 < 4294967296 := numS_lt4 _
  have R0 := Lib.hid (rd_new s w)
  have BA := Lib.hid ((Below.refl w.heap.size w).alloc (Nat.le_refl _) (.cells #[.string s, .bool false] 101))
  have EN : (numS 4 (some s)) = opN s := rfl
  have EC : (numS 4 (opN s).2) = opC s := rfl
  have ET : (takeS (opN s).1 (opC s).2) = opT s := rfl
  rw [EN] at HN
  rw [EC] at HC
  rw [ET] at HT
  clear EN EC ET
  have HK := Lib.hid (show opOk s = (decide ((opN s).1 ≤ 65535) && (goodS (opT s).2 && decide ((moreB 0#32 (opT s).1).toNat = (opC s).1))) from rfl)
  have HLO := Lib.hid (left_of s)
  have HY := Lib.hid (@openV_yes s)
  have HZ := Lib.hid (@openV_no s)
  rw [v_nat] at HS
  have hm := (moreB 0#32 (opT s).1).isLt
  generalize (moreB 0#32 (opT s).1).toNat = m at *
  generalize openV s = V at *
  generalize opOk s = ok at *
  generalize (opN s).1 = n at *
  generalize (opN s).2 = s1 at *
  generalize (opC s).1 = c at *
  generalize (opC s).2 = s2 at *
  generalize (opT s).1 = t at *
  generalize (opT s).2 = s3 at *
  go_enter Tryz.func63, Tryz.ntmps63
  go_wp2_with fail
  refine (HR.out _).mono ?_
  rintro e w1 ⟨rfl, rfl⟩
  go_wp2_with fail
  refine (HN.out _ _ R0.out).mono ?_
  rintro e w2 ⟨rfl, r2, g2⟩
  have B2 := Lib.hid (BA.out.grown g2 (by simp) (by intro k hk; cases hk; exact Nat.le_refl _))
  clear g2 BA R0
  go_wp2_with fail
  refine (HC.out _ _ r2).mono ?_
  rintro e w3 ⟨rfl, r3, g3⟩
  have B3 := Lib.hid (B2.out.grown g3 B2.out.size (by intro k hk; cases hk; exact Nat.le_refl _))
  clear g3 B2 r2
  by_cases h1 : 65535 < n
  · have d1 : decide (65535 < (n : Int)) = true := decide_eq_true (by omega)
    have HE := Lib.hid (HZ.out (by rw [HK.out, decide_eq_false (by omega), Bool.false_and]))
    clear HK
    go_wp2
    refine bodyPost_ret (by simp [results, Tryz.results63, go_sem]; try rfl) rfl ?_
    exact ⟨by rw [HE.out]; rfl, B3.out⟩
  have d1 : decide (65535 < (n : Int)) = false := decide_eq_false (by omega)
  have D1 := Lib.hid (show decide (n ≤ 65535) = true from decide_eq_true (by omega))
  go_wp2_with fail
  refine (HT.out _ _ r3).mono ?_
  rintro e w4 ⟨rfl, r4, g4⟩
  have B4 := Lib.hid (B3.out.grown g4 B3.out.size (by intro k hk; cases hk; exact Nat.le_refl _))
  clear g4 B3 r3
  go_wp2_with fail
  refine (HG.out _ _ r4).mono ?_
  rintro e w5 ⟨rfl, rfl⟩
  cases hgd : goodS s3
  · have HE := Lib.hid (HZ.out (by rw [HK.out, hgd, Bool.false_and, Bool.and_false]))
    clear HK hgd
    go_wp2
    refine bodyPost_ret (by simp [results, Tryz.results63, go_sem]; try rfl) rfl ?_
    exact ⟨by rw [HE.out]; rfl, B4.out⟩
  have HGD := Lib.hid hgd
  clear hgd
  by_cases hmc : m = c
  · have hk : ok = true := by rw [HK.out, D1.out, HGD.out, decide_eq_true hmc]; rfl
    obtain ⟨hl1, hl2⟩ := HLO.out hk
    have HE := Lib.hid (HY.out hk)
    have HL1 := Lib.hid hl1
    clear hl1 hk
    have hb : ((m : Int) != (c : Int)) = false := by simp [hmc]
    have HMC := Lib.hid hmc
    clear hmc
    go_wp2_with fail
    refine (HS.out _).mono ?_
    rintro e w6 ⟨rfl, rfl⟩
    go_wp2_with fail
    refine (HLF.out _ _ r4).mono ?_
    rintro e w7 ⟨rfl, rfl⟩
    go_wp2
    refine bodyPost_ret (by simp [results, Tryz.results63, go_sem]; try rfl) rfl ?_
    exact ⟨by rw [HE.out, ← HL1.out], B4.out⟩
  · have HE := Lib.hid (HZ.out (by rw [HK.out, decide_eq_false hmc, Bool.and_false, Bool.and_false]))
    have hb : ((m : Int) != (c : Int)) = true := by simp; omega
    clear hmc HK
    go_wp2_with fail
    refine (HS.out _).mono ?_
    rintro e w6 ⟨rfl, rfl⟩
    go_wp2
    refine bodyPost_ret (by simp [results, Tryz.results63, go_sem]; try rfl) rfl ?_
    exact ⟨by rw [HE.out]; rfl, B4.out⟩
end Go.Proofs.YtffnkomnldgcaaaGreatDoor
