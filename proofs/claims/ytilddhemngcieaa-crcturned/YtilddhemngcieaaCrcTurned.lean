/-
  P8.4: bytes of which some bits are turned, all within 32 side by side, have another sum: for every text, place and bits.
  No condition beside the form's own.
-/
import Derived.Test.YtilddhemngcieaaCr4
import Derived.Lib.ConvBytes
import Derived.ProofKit
import Derived.OpenShut
import Derived.ShutString
import Derived.ChangeOld
import Derived.SizedLaws
namespace Go.Proofs.Ytilddhemngcieaa.CrcTurned
open Go.ChangeShapes Go.WideShapes Go.ChangeAt Go.RowKit Go.Pal Go.Pal.Fr Go.Pal.Cr
open Go.ChangeMaps (open_string shut_string)
set_option linter.unusedVariables false

/-- The cells of a row of bytes. -/
structure Row8 (w : World) (B : Nat) (l : List UInt8) : Prop where
  cell : ∀ i, i < l.length → w.cell? ⟨B, i, none⟩ = some (.int .u8 ((l.getD i 0).toNat : Int))
  free : ∀ i, i < l.length → w.frozen? ⟨B, i, none⟩ = false

theorem Row8.start (w : World) (e : TypeId) (s : ByteArray) : Row8 (Lib.bytesWorld w e s) w.heap.size s.data.toList := by
  refine ⟨fun i hi => Lib.bytesWorld_cell w e s i (by simpa using hi), fun i hi => ?_⟩
  have hi' : i < s.size := by simpa using hi
  have hge := grownCap_ge w s.size 0 e
  have hsz : s.size ≤ (Lib.bytesCells w e s).size := by simp [Lib.bytesCells]
  simp [World.frozen?, Lib.bytesWorld_at_new]
  omega
theorem Row8.set {w : World} {B : Nat} {l : List UInt8} (h : Row8 w B l) (q : Nat) (x : UInt8) (hq : q < l.length) : Row8 (w.setCell ⟨B, q, none⟩ (.int .u8 (x.toNat : Int))) B (l.set q x) := by
  refine ⟨fun i hi => ?_, fun i hi => ?_⟩
  · have hi' : i < l.length := by simpa using hi
    by_cases e : i = q
    · subst e
      rw [World.cell?_setCell_same (h := h.cell i hi')]
      simp [List.getD_eq_getElem?_getD, List.getElem?_set_self hi']
    · rw [World.cell?_setCell_other (h := by intro hh; cases hh; exact e rfl), h.cell i hi']
      simp [List.getD_eq_getElem?_getD, List.getElem?_set_ne (fun hh => e hh.symm)]
  · rw [World.frozen?_setCell]; exact h.free i (by simpa using hi)
theorem Row8.drew {w : World} {B : Nat} {l : List UInt8} (h : Row8 w B l) : Row8 w.drew B l := ⟨h.cell, h.free⟩
theorem nums_bytes' (l : List UInt8) : strOfNums (l.map fun b => (b.toNat : Int)) = ⟨l.toArray⟩ := by
  simp [strOfNums, Function.comp_def]
theorem Row8.text {w : World} {B cap : Nat} {l : List UInt8} (h : Row8 w B l) :
    (convert 35 9 (.slice (some ⟨B, 0, none⟩) l.length cap)).run Try.prog w = .ok (.string ⟨l.toArray⟩) w := by
  have h1 := run_convert_bytes_arg (P := Try.prog) w 35 5 Try.underlying35 Try.underlying5 B 0 l.length cap (l.map fun b => (b.toNat : Int)) (by simp) (fun i hi => by
      rw [Nat.zero_add, h.cell i (by omega)]
      simp [hi]) 9 Try.underlying9
  rw [h1, nums_bytes']

theorem xor_bit (x : UInt8) (r : Nat) (hr : r < 8) : bits .xor .u8 (x.toNat : Int) (2 ^ r % 256) = ((UInt8.ofNat (x.toNat ^^^ 2 ^ r)).toNat : Int) := by
  have h1 := x.toNat_lt
  have h2 : 2 ^ r < 2 ^ 8 := Nat.pow_lt_pow_right (by decide) hr
  have hlt : x.toNat ^^^ 2 ^ r < 256 := Nat.xor_lt_two_pow (n := 8) (by omega) h2
  have e : ((2 : Int) ^ r % 256) = ((2 ^ r : Nat) : Int) := by
    have : ((2 : Int) ^ r) = ((2 ^ r : Nat) : Int) := by simp
    rw [this]; generalize 2 ^ r = p at *; omega
  rw [e, u8_xor _ _ (by omega) (by omega) (by omega) (by omega), UInt8.toNat_ofNat_of_lt' hlt]
  simp only [Int.toNat_natCast]

set_option maxHeartbeats 1000000 in
set_option maxRecDepth 100000 in
theorem walk (s : ByteArray) (n c : Int) (hs : s.size ≤ 140737488351232) (hn : (Lit.int .i64 n).wf = true) (hc : (Lit.int .u32 c).wf = true) (w : World) :
    Calls Try.prog 7 #[.string s, .int .i64 n, .int .u32 c] w fun e w' => e = .returned (.bool true) ∧ Below w.heap.size w w' := by
  have bn := bounds_i64 hn
  have bc := bounds_u32 hc
  clear hn hc
  have HA := Lib.hid awake8
  by_cases h1 : s.size = 0
  · have d0 : ((s.size : Int) == 0) = true := beq_iff_eq.2 (by omega)
    clear h1
    go_enter Try.func7, Try.ntmps7
    go_wp2_with fail
    refine (HA.out _).mono ?_
    rintro e w1 ⟨rfl, b1⟩
    go_wp2
    go_ret
    exact ⟨rfl, b1⟩
  have d0 : ((s.size : Int) == 0) = false := beq_eq_false_iff_ne.2 (by omega)
  by_cases h2 : 3000 < s.size
  · have d1 : decide (3000 < (s.size : Int)) = true := decide_eq_true (by omega)
    clear h1 h2
    go_enter Try.func7, Try.ntmps7
    go_wp2_with fail
    refine (HA.out _).mono ?_
    rintro e w1 ⟨rfl, b1⟩
    go_wp2
    go_ret
    exact ⟨rfl, b1⟩
  have d1 : decide (3000 < (s.size : Int)) = false := decide_eq_false (by omega)
  by_cases h3 : c = 0
  · have d2 : (c == 0) = true := beq_iff_eq.2 h3
    clear h1 h2 h3
    go_enter Try.func7, Try.ntmps7
    go_wp2_with fail
    refine (HA.out _).mono ?_
    rintro e w1 ⟨rfl, b1⟩
    go_wp2
    go_ret
    exact ⟨rfl, b1⟩
  have d2 : (c == 0) = false := beq_eq_false_iff_ne.2 h3
  have z0 : 0 < s.size := by omega
  have z1 : s.size ≤ 3000 := by omega
  clear h1 h2 h3
  have kc := fun (w : World) (s : ByteArray) => Lib.run_convert_string_bytes (P := Try.prog) w 9 35 5 s Try.underlying9 Try.underlying35 Try.underlying5
  obtain ⟨m, rfl⟩ := Int.eq_ofNat_of_zero_le bc.1
  obtain ⟨k, hw, hk⟩ : ∃ k : Nat, wrap64 ((IntKind.u64.wrap n).tmod (8 * (s.size : Int))) = (k : Int) ∧ k < 8 * s.size := by
    have h0 : 0 ≤ IntKind.u64.wrap n := by rw [IntKind.wrap_u64]; omega
    have h1 := Int.tmod_lt_of_pos (IntKind.u64.wrap n) (show (0 : Int) < 8 * (s.size : Int) by omega)
    have h2 := Int.tmod_nonneg (8 * (s.size : Int)) h0
    refine ⟨((IntKind.u64.wrap n).tmod (8 * (s.size : Int))).toNat, ?_, by omega⟩
    unfold wrap64; omega
  have R0 := Lib.hid (Row8.start w 5 s)
  have B0 := Lib.hid (show Below w.heap.size w (Lib.bytesWorld w 5 s) from ⟨rfl, rfl, rfl, by rw [Lib.bytesWorld_size]; omega, fun i hi => Lib.bytesWorld_at_old w _ s i hi⟩)
  have HTL := Lib.hid (fun j => turnL_length m k s.data.toList j)
  rw [show s.data.toList.length = s.size by simp] at HTL
  go_enter Try.func7, Try.ntmps7
  go_wp2
  generalize Lib.bytesWorld w 5 s = w0 at *
  generalize grownCap w s.size 0 5 = cap at *
  rw [hw]
  clear kc hw
  go_loopw [9] (fun i wr => ∃ j : Nat, j ≤ 32 ∧ k + j ≤ 8 * s.size ∧ i = .int .i64 j ∧ Row8 wr w.heap.size (turnL m k s.data.toList j) ∧ Below w.heap.size w wr) (fun i _ => 32 - (intOf i).toNat)
  case atStart => exact ⟨0, by omega, by omega, rfl, R0.out, B0.out⟩
  case round =>
    obtain ⟨j, hj, hkj, rfl, hR, hb⟩ := hrel
    by_cases hlt : j < 32 ∧ k + j < 8 * s.size
    · obtain ⟨l1, l2⟩ := hlt
      have e1 : decide ((j : Int) < 32) = true := decide_eq_true (by omega)
      have e2 : decide ((k : Int) + (j : Int) < 8 * (s.size : Int)) = true := decide_eq_true (by omega)
      have hbit := bit_one m j
      have HT := Lib.hid (show turnL m k s.data.toList (j + 1) = if m.testBit j then Go.Pal.Cr.flip (turnL m k s.data.toList j) (k + j) else turnL m k s.data.toList j from rfl)
      have hl := HTL.out j
      generalize turnL m k s.data.toList j = l at *
      have HR := Lib.hid hR
      have HB := Lib.hid hb
      cases hbb : m.testBit j
      · rw [hbb] at hbit HT
        clear hbb hR hb
        go_wp2
        go_roundw
        case rel => exact ⟨j + 1, by omega, by omega, by go_num, by rw [HT.out]; exact HR.out, HB.out⟩
        case measure => simp [intOf]; omega
      · rw [hbb] at hbit HT
        obtain ⟨q, hq⟩ : ∃ q, (k + j) / 8 = q := ⟨_, rfl⟩
        obtain ⟨r, hr⟩ : ∃ r, (k + j) % 8 = r := ⟨_, rfl⟩
        have q1 : ((k : Int) + (j : Int)) / 8 = (q : Int) := by omega
        have r1 : ((k : Int) + (j : Int)) % 8 = (r : Int) := by omega
        have hql : q < s.size := by omega
        have hr8 : r < 8 := by omega
        have q2 : (q : Int) < (s.size : Int) := by omega
        have hw1 : IntKind.i64.wrap ((k : Int) + (j : Int)) = (k : Int) + (j : Int) := by rw [IntKind.wrap_i64]; omega
        have hc := hR.cell q (by omega)
        have hf := hR.free q (by omega)
        clear hbb hR hb
        have HQ := Lib.hid hq
        have HRM := Lib.hid hr
        clear hq hr
        go_wp2
        go_region
        have HS := Lib.hid (HR.out.set q (UInt8.ofNat ((l.getD q 0).toNat ^^^ 2 ^ r)) (by omega))
        rw [← xor_bit (l.getD q 0) r hr8] at HS
        have HF := Lib.hid (show l.set q (UInt8.ofNat ((l.getD q 0).toNat ^^^ 2 ^ r)) = Go.Pal.Cr.flip l (k + j) by unfold Go.Pal.Cr.flip; rw [HQ.out, HRM.out])
        rw [HF.out] at HS
        go_wp2
        go_roundw
        case rel => exact ⟨j + 1, by omega, by omega, by go_num, by rw [HT.out]; have hS := HS.out.drew; simp only [List.getD_eq_getElem?_getD, List.getElem?_eq_getElem (show q < l.length by omega), Option.getD_some] at hS; simpa using hS, (HB.out.setCell (Nat.le_refl _) _).drew⟩
        case measure => simp [intOf]; omega
    · have hout := turnL_out m k s.data.toList j hj (by simpa using hkj)
      have hl := HTL.out j
      generalize turnL m k s.data.toList j = l at *
      have hz : (⟨l.toArray⟩ : ByteArray).size = s.size := hl
      have HM := Lib.hid (moreB_turned 0#32 s ⟨l.toArray⟩ k hz.symm (by omega) (fun t _ ht => (hout t ht).symm))
      have ht := hR.text (cap := cap)
      rw [hl] at ht
      have HST := Lib.hid (fun w => sum_crc ⟨l.toArray⟩ (by rw [hz]; unfold maxLen; omega) w)
      have HSS := Lib.hid (fun w => sum_crc s (by unfold maxLen; omega) w)
      have hcond : (decide ((j : Int) < 32) && decide ((k : Int) + (j : Int) < 8 * (s.size : Int))) = false := by
        rw [Bool.and_eq_false_iff, decide_eq_false_iff_not, decide_eq_false_iff_not]; omega
      generalize (⟨l.toArray⟩ : ByteArray) = T at *
      have HB := Lib.hid hb
      clear hR hb hout
      by_cases hq : T = s
      · have d5 := eqT hq
        have HQ := Lib.hid hq
        clear hq hlt
        by_cases hj2 : j < 32
        · have e1 : decide ((j : Int) < 32) = true := decide_eq_true (by omega)
          have e2 : decide ((k : Int) + (j : Int) < 8 * (s.size : Int)) = false := by rw [e1, Bool.true_and] at hcond; exact hcond
          clear hcond
          go_wp2_with fail
          refine (HA.out _).mono ?_
          rintro e w5 ⟨rfl, b5⟩
          go_wp2
          go_ret
          exact ⟨rfl, HB.out.trans (b5.mono HB.out.size)⟩
        · have e1 : decide ((j : Int) < 32) = false := decide_eq_false (by omega)
          clear hcond
          go_wp2_with fail
          refine (HA.out _).mono ?_
          rintro e w5 ⟨rfl, b5⟩
          go_wp2
          go_ret
          exact ⟨rfl, HB.out.trans (b5.mono HB.out.size)⟩
      · have d5 := eqF hq
        have d6 : (v (moreB 0#32 T) != v (moreB 0#32 s)) = true := by
          rw [bne_iff_ne]
          exact fun h => hq (HM.out (v_inj h).symm).symm
        clear hq hlt HM
        generalize v (moreB 0#32 T) = a at *
        generalize v (moreB 0#32 s) = b at *
        by_cases hj2 : j < 32
        · have e1 : decide ((j : Int) < 32) = true := decide_eq_true (by omega)
          have e2 : decide ((k : Int) + (j : Int) < 8 * (s.size : Int)) = false := by rw [e1, Bool.true_and] at hcond; exact hcond
          clear hcond
          go_wp2_with fail
          refine (HST.out _).mono ?_
          rintro e w3 ⟨rfl, rfl⟩
          go_wp2_with fail
          refine (HSS.out _).mono ?_
          rintro e w4 ⟨rfl, rfl⟩
          go_wp2_with fail
          refine (HA.out _).mono ?_
          rintro e w5 ⟨rfl, b5⟩
          go_wp2
          go_ret
          exact ⟨rfl, HB.out.trans (b5.mono HB.out.size)⟩
        · have e1 : decide ((j : Int) < 32) = false := decide_eq_false (by omega)
          clear hcond
          go_wp2_with fail
          refine (HST.out _).mono ?_
          rintro e w3 ⟨rfl, rfl⟩
          go_wp2_with fail
          refine (HSS.out _).mono ?_
          rintro e w4 ⟨rfl, rfl⟩
          go_wp2_with fail
          refine (HA.out _).mono ?_
          rintro e w5 ⟨rfl, b5⟩
          go_wp2
          go_ret
          exact ⟨rfl, HB.out.trans (b5.mono HB.out.size)⟩

theorem own : ownKnob Try.prog.godebug = none := by kernel_rfl
theorem laidOut : laidOutB Try.prog = true := by kernel_rfl

set_option maxRecDepth 100000 in
theorem lifted (os : Os) (started : os.Started) (H : Type) (enc : TypeId × Value → H) :
    ReturnsInHanded {} Try.checked os 7 .any (Rows.crcTurnedSpec.pre6 enc Try.prog Try.f7 Rows.crcTurnedRow.domain false) (Rows.crcTurnedSpec.post enc Try.prog Try.f7 false true false false) := by
  refine returnsInHanded_of_change_sized (C := Try.checked) own started (by kernel_rfl) Try.func7
    (ChangeSpec.witness6 (enc := enc) (C := Try.checked) false ⟨#[], #[.string ByteArray.empty, .int .i64 0, .int .u32 0], []⟩ 8 (by kernel_rfl) (by kernel_rfl) (by kernel_rfl) (by kernel_rfl)) ?_
  intro W base args ds gs before hval0 hW _ hsz0 _
  have hsz : (DataW.weightsEach Try.prog (Try.f7.params.toList ++ Rows.crcTurnedSpec.plain.varTypes Try.prog) (ds ++ gs)).all (· ≤ reachBytes) = true := hsz0
  clear hsz0
  have hval : ∀ (j : Nat) t v, Try.f7.params[j]? = some t → args[j]? = some v → Value.okWide Try.prog W .any base t v := hval0
  have hW' := hW
  obtain ⟨p, q, hA0, hV, rfl, hfz, hnd⟩ := hW
  have hA : DataW.TrodAll enc Try.prog W 0 (fun _ => true) true Try.f7.params.toList args.toList ds p := hA0
  rw [Try.params7] at hA hval hsz
  obtain ⟨v0, vs0, d0, ds0, p0, q0, hargs, rfl, rfl, h0, r0⟩ := trodAll_cons hA
  obtain ⟨v1, vs1, d1, ds1, p1, q1, rfl, rfl, rfl, h1, r1⟩ := trodAll_cons r0
  obtain ⟨v2, vs2, d2, ds2, p2, q2, rfl, rfl, rfl, h2, r2⟩ := trodAll_cons r1
  obtain ⟨rfl, rfl, rfl⟩ := trodAll_nil r2
  obtain rfl : args = #[v0, v1, v2] := by cases args; simp_all
  obtain ⟨rfl, rfl⟩ := trodVars_none hV
  obtain ⟨a0, rfl, rfl, rfl, w0⟩ := open_string Try.underlying9 (hval 0 9 v0 rfl rfl) h0
  have z0 : a0.size ≤ 140737488351232 := by
    have := sized_string hsz (j := 0) (t := 9) rfl rfl
    simpa [reachBytes] using this
  obtain ⟨a1, rfl, rfl, rfl, w1⟩ := open_int Try.underlying3 (hval 1 3 v1 rfl rfl) h1
  obtain ⟨a2, rfl, rfl, rfl, w2⟩ := open_int Try.underlying22 (hval 2 22 v2 rfl rfl) h2
  clear hA0 hval0
  refine (walk a0 a1 a2 z0 w1 w2 W).mono fun e W' ⟨he, bel⟩ => ?_
  subst he
  exact ⟨_, rfl, _, _, _, [], [], [], hW', trodAll_mk1 (shut_bool Try.underlying4 _), (trodAll_cons_mk (shut_string Try.underlying9 w0) (trodAll_cons_mk (shut_int Try.underlying3 w1) (trodAll_cons_mk (shut_int Try.underlying22 w2) trodAll_mk0))), rfl, bel.frame _, fun h => by cases h⟩

theorem over : Rows.crcTurnedRow.holds Try.pinned (OpenSpec.ofChange Rows.crcTurnedSpec) :=
  OpenClaim.holds_of_wide 7 Try.f7 rfl rfl rfl rfl rfl rfl rfl ⟨rfl, rfl, rfl, rfl, rfl⟩ rfl rfl rfl rfl rfl (by kernel_rfl) Try.func7 (by kernel_rfl)
    (of_decide_eq_true (by kernel_rfl)) (by unfold Func.isWrapper; first | (rw [if_pos (by decide +kernel)]; kernel_rfl) | (rw [if_neg (by decide +kernel)]; exact ⟨rfl, rfl⟩))
    (fun os started H enc _ => lifted os started H enc)

end Go.Proofs.Ytilddhemngcieaa.CrcTurned
namespace Go.Proofs.Ytilddhemngcieaa
theorem crcTurned_holds : Rows.CrcTurnedSaid := CrcTurned.over
#print axioms crcTurned_holds
end Go.Proofs.Ytilddhemngcieaa

