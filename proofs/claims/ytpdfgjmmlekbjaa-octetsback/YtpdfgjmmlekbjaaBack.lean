/-
  P1.3: numbers and texts that are laid one behind the other are read as they were, with anything behind them: for every byte, short, long and texts.
  No condition beside the form's own.
-/
import Derived.Test.YtpdfgjmmlekbjaaRdMath
import Derived.ProofKit
import Derived.OpenShut
import Derived.ShutString
import Derived.ChangeOld
import Derived.SizedLaws
namespace Go.Proofs.Ytpdfgjmmlekbjaa.OctetsBack
open Go.ChangeShapes Go.WideShapes Go.ChangeAt Go.RowKit Go.Pal
open Go.ChangeMaps (open_string shut_string)
set_option linter.unusedVariables false


set_option maxHeartbeats 400000 in
theorem walk_long (a b c : Int) (t rest : ByteArray) (ha : (Lit.int .u8 a).wf = true) (hb : (Lit.int .u16 b).wf = true) (hc : (Lit.int .u32 c).wf = true) (ht : t.size ≤ 140737488351232) (h : ¬ t.size < 65536) (w : World) :
    Calls Try.prog 6 #[.int .u8 a, .int .u16 b, .int .u32 c, .string t, .string rest] w fun e w' => e = .returned (.bool true) ∧ Below w.heap.size w w' := by
  have ba := bounds_u8 ha
  have bb := bounds_u16 hb
  have bc := bounds_u32 hc
  clear ha hb hc
  have hl : decide (65535 < (t.size : Int)) = true := by simp; omega
  go_enter Try.func6, Try.ntmps6
  go_wp2_with fail
  refine (byte_any a (by omega) _).mono ?_
  rintro e w1 ⟨rfl, b1⟩
  go_wp2_with fail
  refine (short_any b (by omega) _).mono ?_
  rintro e w2 ⟨rfl, b2⟩
  go_wp2_with fail
  refine (long_any c (by omega) _).mono ?_
  rintro e w3 ⟨rfl, b3⟩
  go_wp2_with fail
  refine (text_no t h (by omega) _).mono ?_
  rintro e w4 ⟨rfl, b4⟩
  go_wp2_with fail
  refine (awake_any _).mono ?_
  rintro e w5 ⟨rfl, b5⟩
  go_wp2
  go_ret
  have c2 := b1.trans (b2.mono b1.size)
  have c3 := c2.trans (b3.mono c2.size)
  have c4 := c3.trans (b4.mono c3.size)
  exact ⟨rfl, c4.trans (b5.mono c4.size)⟩

/-- What is read of all of it, step by step. -/
theorem cat_all (x l v u rest : ByteArray) : x ++ l ++ v ++ u ++ rest = x ++ (l ++ (v ++ (u ++ rest))) := by simp [ByteArray.append_assoc]

theorem rd_all (y : ByteArray) : rdOk y.size y false = true ∧ rdOut y.size y false = y ∧ rdRest y.size y false = ByteArray.empty := by
  have e : y = y ++ ByteArray.empty := by simp
  have := rd_cat (k := y.size) (x := y) ByteArray.empty rfl
  rwa [← e] at this

set_option maxHeartbeats 1000000 in
theorem walk_yes (a b c : Nat) (t rest : ByteArray) (ha : a < 256) (hb : b < 65536) (hc : c < 4294967296) (hr : rest.size ≤ 140737488351232) (h : t.size < 65536) (w : World) :
    Calls Try.prog 6 #[.int .u8 a, .int .u16 b, .int .u32 c, .string t, .string rest] w fun e w' => e = .returned (.bool true) ∧ Below w.heap.size w w' := by
  have e1 := lay1_any a (by omega) w
  have k1 := numOk_yes (k := 1) (n := (a : Int)) (by omega) (by simp; omega)
  have k2 := numOk_yes (k := 2) (n := (b : Int)) (by omega) (by simp; omega)
  have k4 := numOk_yes (k := 4) (n := (c : Int)) (by omega) (by simp; omega)
  have n1 := numB_yes k1
  have n2 := numB_yes k2
  have n4 := numB_yes k4
  rw [Int.toNat_natCast] at n1 n2 n4
  have z1 := be_size 1 a
  have z2 := be_size 2 b
  have z4 := be_size 4 c
  have zt : (be 2 t.size ++ t).size = t.size + 2 := by rw [ByteArray.size_append, be_size]; omega
  have v1 : (valL (be 1 a).data.toList : Int) = a := by rw [val_be 1 a (by simpa using ha)]
  have v2 : (valL (be 2 b).data.toList : Int) = b := by rw [val_be 2 b (by simpa using hb)]
  have v4 : (valL (be 4 c).data.toList : Int) = c := by rw [val_be 4 c (by simpa using hc)]
  clear e1
  -- what each call of the reader tells
  generalize hS4 : be 4 c ++ rest = S4
  generalize hS3 : be 2 b ++ S4 = S3
  generalize hS2 : be 2 t.size ++ t ++ S3 = S2
  have zS4 : S4.size ≤ 140737488351236 := by rw [← hS4, ByteArray.size_append, z4]; omega
  have zS3 : S3.size ≤ 140737488351238 := by rw [← hS3, ByteArray.size_append, z2]; omega
  have zS2 : S2.size ≤ 140737488420000 := by rw [← hS2, ByteArray.size_append, zt]; omega
  have zS1 : (be 1 a ++ S2).size ≤ 140737488420001 := by rw [ByteArray.size_append, z1]; omega
  have r1 := rd_cat (k := 1) (x := be 1 a) S2 (by rw [z1]; rfl)
  have r2 := rd_text t S3 h
  have r2' := rd_cat (k := t.size) (x := t) S3 rfl
  have r3 := rd_cat (k := 2) (x := be 2 b) S4 (by rw [z2]; rfl)
  have r4 := rd_cat (k := 4) (x := be 4 c) rest (by rw [z4]; rfl)
  have r5 := rd_all rest
  rw [hS2] at r2
  rw [hS3] at r3
  rw [hS4] at r4
  have q1 := fun W B h => rbyte_any W B (be 1 a ++ S2) false h (by omega)
  rw [r1.1, r1.2.1, r1.2.2, v1] at q1
  have q2 := fun W B h => rtext_any2 W B S2 false h (by omega)
  rw [r2.1, r2.2.1, r2.2.2, Bool.not_true, r2'.1, r2'.2.1, r2'.2.2] at q2
  have q3 := fun W B h => rshort_any W B S3 false h (by omega)
  rw [r3.1, r3.2.1, r3.2.2, v2] at q3
  have q4 := fun W B h => rlong_any W B S4 false h (by omega)
  rw [r4.1, r4.2.1, r4.2.2, v4] at q4
  have q5 := fun W B h => take_any rest.size W B rest false h (by omega)
  rw [r5.1, r5.2.1, r5.2.2] at q5
  have hcat : be 1 a ++ (be 2 t.size ++ t) ++ be 2 b ++ be 4 c ++ rest = be 1 a ++ S2 := by
    rw [cat_all, ← hS2, ← hS3, ← hS4]
  have HC := Lib.hid hcat
  have Q1 := Lib.hid q1
  have Q2 := Lib.hid q2
  have Q3 := Lib.hid q3
  have Q4 := Lib.hid q4
  have Q5 := Lib.hid q5
  have q6 := byte_any (a : Int) (by omega)
  have q7 := short_any (b : Int) (by omega)
  have q8 := long_any (c : Int) (by omega)
  rw [n1, k1] at q6
  rw [n2, k2] at q7
  rw [n4, k4] at q8
  have Q6 := Lib.hid q6
  have Q7 := Lib.hid q7
  have Q8 := Lib.hid q8
  have Q9 := Lib.hid (text_yes t h)
  clear q1 q2 q3 q4 q5 q6 q7 q8 r1 r2 r2' r3 r4 r5 hS2 hS3 hS4 v1 v2 v4 k1 k2 k4 n1 n2 n4 hcat
  generalize be 2 t.size ++ t = L at *
  generalize be 1 a = A1 at *
  generalize be 2 b = B2 at *
  generalize be 4 c = C4 at *
  go_enter Try.func6, Try.ntmps6
  go_wp2_with fail
  refine (Q6.out _).mono ?_
  rintro e w1 ⟨rfl, b1⟩
  go_wp2_with fail
  refine (Q7.out _).mono ?_
  rintro e w2 ⟨rfl, b2⟩
  go_wp2_with fail
  refine (Q8.out _).mono ?_
  rintro e w3 ⟨rfl, b3⟩
  go_wp2_with fail
  refine (Q9.out _).mono ?_
  rintro e w4 ⟨rfl, b4⟩
  go_wp2_with fail
  rw [HC.out]
  refine (read_any _ _).mono ?_
  rintro e w5 ⟨rfl, rfl⟩
  have hrd := rd_new (A1 ++ S2) w4
  go_wp2_with fail
  refine (Q1.out _ _ hrd).mono ?_
  rintro e w6 ⟨rfl, hr6, hg6⟩
  go_wp2_with fail
  refine (Q2.out _ _ hr6).mono ?_
  rintro e w7 ⟨rfl, hr7, hg7⟩
  go_wp2_with fail
  refine (Q3.out _ _ hr7).mono ?_
  rintro e w8 ⟨rfl, hr8, hg8⟩
  go_wp2_with fail
  refine (Q4.out _ _ hr8).mono ?_
  rintro e w9 ⟨rfl, hr9, hg9⟩
  go_wp2_with fail
  refine (left_any _ _ _ _ hr9).mono ?_
  rintro e w10 ⟨rfl, rfl⟩
  go_wp2_with fail
  refine (Q5.out _ _ hr9).mono ?_
  rintro e w11 ⟨rfl, hr11, hg11⟩
  go_wp2_with fail
  refine (end_any _ _ _ _ hr11).mono ?_
  rintro e w12 ⟨rfl, rfl⟩
  go_wp2_with fail
  refine (awake_any _).mono ?_
  rintro e w13 ⟨rfl, b13⟩
  go_wp2
  go_ret
  have c2 := b1.trans (b2.mono b1.size)
  have c3 := c2.trans (b3.mono c2.size)
  have c4 := c3.trans (b4.mono c3.size)
  have d0 := c4.alloc c4.size (.cells #[.string (A1 ++ S2), .bool false] 48)
  have hk : ∀ k, some w4.heap.size = some k → w.heap.size ≤ k := by intro k hk; cases hk; exact c4.size
  have d1 := d0.grown hg6 d0.size hk
  have d2 := d1.grown hg7 d1.size hk
  have d3 := d2.grown hg8 d2.size hk
  have d4 := d3.grown hg9 d3.size hk
  have d5 := d4.grown hg11 d4.size hk
  exact ⟨rfl, d5.trans (b13.mono d5.size)⟩

theorem walk (a b c : Int) (t rest : ByteArray) (ha : (Lit.int .u8 a).wf = true) (hb : (Lit.int .u16 b).wf = true) (hc : (Lit.int .u32 c).wf = true) (ht : t.size ≤ 140737488351232) (hr : rest.size ≤ 140737488351232) (w : World) :
    Calls Try.prog 6 #[.int .u8 a, .int .u16 b, .int .u32 c, .string t, .string rest] w fun e w' => e = .returned (.bool true) ∧ Below w.heap.size w w' := by
  by_cases h : t.size < 65536
  · have ba := bounds_u8 ha
    have bb := bounds_u16 hb
    have bc := bounds_u32 hc
    obtain ⟨a, rfl⟩ := Int.eq_ofNat_of_zero_le ba.1
    obtain ⟨b, rfl⟩ := Int.eq_ofNat_of_zero_le bb.1
    obtain ⟨c, rfl⟩ := Int.eq_ofNat_of_zero_le bc.1
    exact walk_yes a b c t rest (by omega) (by omega) (by omega) hr h w
  · exact walk_long a b c t rest ha hb hc ht h w

theorem own : ownKnob Try.prog.godebug = none := by kernel_rfl
theorem laidOut : laidOutB Try.prog = true := by kernel_rfl

set_option maxRecDepth 100000 in
theorem lifted (os : Os) (started : os.Started) (H : Type) (enc : TypeId × Value → H) :
    ReturnsInHanded {} Try.checked os 6 .any (Rows.octetsBackSpec.pre6 enc Try.prog Try.f6 Rows.octetsBackRow.domain false) (Rows.octetsBackSpec.post enc Try.prog Try.f6 false true false false) := by
  refine returnsInHanded_of_change_sized (C := Try.checked) own started (by kernel_rfl) Try.func6
    (ChangeSpec.witness6 (enc := enc) (C := Try.checked) false ⟨#[], #[.int .u8 0, .int .u16 0, .int .u32 0, .string ByteArray.empty, .string ByteArray.empty], []⟩ 8 (by kernel_rfl) (by kernel_rfl) (by kernel_rfl) (by kernel_rfl)) ?_
  intro W base args ds gs before hval0 hW _ hsz0 _
  have hsz : (DataW.weightsEach Try.prog (Try.f6.params.toList ++ Rows.octetsBackSpec.plain.varTypes Try.prog) (ds ++ gs)).all (· ≤ reachBytes) = true := hsz0
  clear hsz0
  have hval : ∀ (j : Nat) t v, Try.f6.params[j]? = some t → args[j]? = some v → Value.okWide Try.prog W .any base t v := hval0
  have hW' := hW
  obtain ⟨p, q, hA0, hV, rfl, hfz, hnd⟩ := hW
  have hA : DataW.TrodAll enc Try.prog W 0 (fun _ => true) true Try.f6.params.toList args.toList ds p := hA0
  rw [Try.params6] at hA hval hsz
  obtain ⟨v0, vs0, d0, ds0, p0, q0, hargs, rfl, rfl, h0, r0⟩ := trodAll_cons hA
  obtain ⟨v1, vs1, d1, ds1, p1, q1, rfl, rfl, rfl, h1, r1⟩ := trodAll_cons r0
  obtain ⟨v2, vs2, d2, ds2, p2, q2, rfl, rfl, rfl, h2, r2⟩ := trodAll_cons r1
  obtain ⟨v3, vs3, d3, ds3, p3, q3, rfl, rfl, rfl, h3, r3⟩ := trodAll_cons r2
  obtain ⟨v4, vs4, d4, ds4, p4, q4, rfl, rfl, rfl, h4, r4⟩ := trodAll_cons r3
  obtain ⟨rfl, rfl, rfl⟩ := trodAll_nil r4
  obtain rfl : args = #[v0, v1, v2, v3, v4] := by cases args; simp_all
  obtain ⟨rfl, rfl⟩ := trodVars_none hV
  obtain ⟨a0, rfl, rfl, rfl, w0⟩ := open_int Try.underlying5 (hval 0 5 v0 rfl rfl) h0
  obtain ⟨a1, rfl, rfl, rfl, w1⟩ := open_int Try.underlying41 (hval 1 41 v1 rfl rfl) h1
  obtain ⟨a2, rfl, rfl, rfl, w2⟩ := open_int Try.underlying42 (hval 2 42 v2 rfl rfl) h2
  obtain ⟨a3, rfl, rfl, rfl, w3⟩ := open_string Try.underlying9 (hval 3 9 v3 rfl rfl) h3
  have z3 : a3.size ≤ 140737488351232 := by
    have := sized_string hsz (j := 3) (t := 9) rfl rfl
    simpa [reachBytes] using this
  obtain ⟨a4, rfl, rfl, rfl, w4⟩ := open_string Try.underlying9 (hval 4 9 v4 rfl rfl) h4
  have z4 : a4.size ≤ 140737488351232 := by
    have := sized_string hsz (j := 4) (t := 9) rfl rfl
    simpa [reachBytes] using this
  clear hA0 hval0
  refine (walk a0 a1 a2 a3 a4 w0 w1 w2 z3 z4 W).mono fun e W' ⟨he, bel⟩ => ?_
  subst he
  exact ⟨_, rfl, _, _, _, [], [], [], hW', trodAll_mk1 (shut_bool Try.underlying4 _), (trodAll_cons_mk (shut_int Try.underlying5 w0) (trodAll_cons_mk (shut_int Try.underlying41 w1) (trodAll_cons_mk (shut_int Try.underlying42 w2) (trodAll_cons_mk (shut_string Try.underlying9 w3) (trodAll_cons_mk (shut_string Try.underlying9 w4) trodAll_mk0))))), rfl, bel.frame _, fun h => by cases h⟩

theorem over : Rows.octetsBackRow.holds Try.pinned (OpenSpec.ofChange Rows.octetsBackSpec) :=
  OpenClaim.holds_of_wide 6 Try.f6 rfl rfl rfl rfl rfl rfl rfl ⟨rfl, rfl, rfl, rfl, rfl⟩ rfl rfl rfl rfl rfl (by kernel_rfl) Try.func6 (by kernel_rfl)
    (of_decide_eq_true (by kernel_rfl)) (by unfold Func.isWrapper; first | (rw [if_pos (by decide +kernel)]; kernel_rfl) | (rw [if_neg (by decide +kernel)]; exact ⟨rfl, rfl⟩))
    (fun os started H enc _ => lifted os started H enc)

end Go.Proofs.Ytpdfgjmmlekbjaa.OctetsBack
namespace Go.Proofs.Ytpdfgjmmlekbjaa
theorem octetsBack_holds : Rows.OctetsBackSaid := OctetsBack.over
#print axioms octetsBack_holds
end Go.Proofs.Ytpdfgjmmlekbjaa

