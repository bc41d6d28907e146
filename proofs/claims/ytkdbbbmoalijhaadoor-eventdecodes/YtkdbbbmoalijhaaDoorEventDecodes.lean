/-
  P6.1: any bytes' event, or that they are none's; and their id: for every text.
  The tables of the program start as its text lays them (the card ties them).
-/
import Derived.Test.YtkdbbbmoalijhaaDoorLaid
import Derived.Test.YtkdbbbmoalijhaaDoorE6
import Derived.Test.YtkdbbbmoalijhaaDoorE7
import Derived.Test.YtkdbbbmoalijhaaDoorE9
import Derived.Test.YtkdbbbmoalijhaaDoorE12
import Derived.Test.YtkdbbbmoalijhaaDoorEOpen
import Derived.Deep.RegionHeld3
import Derived.ProofKit
import Derived.OpenShut
import Derived.ShutString
import Derived.ChangeOld
import Derived.SevenTiedAt
import Derived.SliceStrings
namespace Go.Proofs.YtkdbbbmoalijhaaDoor.EventDecodes
open Go.ChangeShapes Go.WideShapes Go.ChangeAt Go.RowKit Go.Pal Go.Pal.Fr Go.Pal.Ev
open Go.ChangeMaps (open_string shut_string)
set_option linter.unusedVariables false

theorem alike_yes {s : ByteArray} {r2 : Ending} {w2 : World} (hE : endS (deS s).2 = true) (hX : evOk (deE s) = true) (h2 : RdP s r2 w2) : ∃ b d, r2 = .returned (.tuple #[evV (deE s) b d, .bool true]) ∧ StrRow w2 b (deE s).parents := by
  have hS := dec_sound s hE
  rcases h2 with ⟨e, b, d, hok, hB, e2, hrow2, hcap2⟩ | ⟨hno, _⟩
  · have h3 := (dec_there e hok).2
    rw [hB] at h3
    rw [h3]
    exact ⟨b, d, e2, hrow2⟩
  · exact absurd hS (hno _ hX)
theorem alike_no {s : ByteArray} {r2 : Ending} {w2 : World} (hF : (endS (deS s).2 && evOk (deE s)) = false) (h2 : RdP s r2 w2) : r2 = .returned (.tuple #[evV zero none 0, .bool false]) := by
  rcases h2 with ⟨e, b, d, hok, hB, e2, hrow2, hcap2⟩ | ⟨_, e2⟩
  · obtain ⟨h3, h4⟩ := dec_there e hok
    rw [hB] at h3 h4
    rw [h3, h4, hok] at hF
    cases hF
  · exact e2

set_option maxHeartbeats 2000000 in
set_option maxRecDepth 100000 in
theorem walk (s : ByteArray) (hs : s.size ≤ maxLen) (w : World) (ht : Tabs w) :
    Calls Tryd.prog 3 #[.string s] w fun r w' => r = .returned (.bool true) ∧ Below w.heap.size w w' := by
  have HAW := Lib.hid (fun (W : World) (hb : Below w.heap.size w W) => awake6 W (ht.below hb))
  unfold maxLen at hs
  by_cases h4 : 4000 < s.size
  · have d1 : decide (4000 < (s.size : Int)) = true := decide_eq_true (by omega)
    have HA1 := Lib.hid (HAW.out w (Below.refl _ _))
    clear ht
    go_enter Tryd.func3, Tryd.ntmps3
    go_wp2_with fail
    refine HA1.out.mono ?_
    rintro r w1 ⟨rfl, q1⟩
    go_wp2
    go_ret
    exact ⟨rfl, q1⟩
  have d1 : decide (4000 < (s.size : Int)) = false := decide_eq_false (by omega)
  have HD := Lib.hid (decode_any w s (by omega))
  have HID := Lib.hid (fun (W : World) (hb : Below w.heap.size w W) => id_any W s (by omega) (ht.below hb))
  have HRI := Lib.hid (fun (W : World) => refid_any W s (by omega))
  have HRD := Lib.hid (fun (W : World) => refdecode_any W s (by omega))
  generalize idB s = D at *
  clear ht
  go_enter Tryd.func3, Tryd.ntmps3
  go_wp2_with fail
  refine HD.out.mono ?_
  rintro r w1 ⟨hD, q1⟩
  have B1 := Lib.hid q1
  clear q1 HD
  rcases hD with ⟨hE, hX, a, c, rfl, hrow, hcap⟩ | ⟨hF, rfl⟩
  · have HAL := Lib.hid (fun (r2 : Ending) (w2 : World) (h2 : RdP s r2 w2) => alike_yes hE hX h2)
    have h8 := (evOk_all hX).2.1
    clear hE hX hcap
    generalize deE s = e at *
    have HRW := Lib.hid hrow
    clear hrow
    unfold evV
    go_wp2_with fail
    refine (HRD.out _).mono ?_
    rintro r w2 ⟨hR, q2⟩
    obtain ⟨b, d, rfl, hrow2⟩ := HAL.out _ _ hR
    have qa := alloc_below w1 (.cells #[.int .i64 e.kind, .string e.author, .slice a e.parents.length c, .string e.body, .string e.sig] 25)
    have q12 := qa.trans (q2.mono qa.size)
    have B2 := Lib.hid (B1.out.trans (q12.mono B1.out.size))
    have qb := alloc_below w2 (.cells #[.int .i64 e.kind, .string e.author, .slice b e.parents.length d, .string e.body, .string e.sig] 25)
    have HSM := Lib.hid (same_true _ e a b c d ((HRW.out.below q12).below qb) (hrow2.below qb) (by omega))
    obtain ⟨k0, k1, k2, k3, k4⟩ := box_cells (q2.trans (qb.mono q2.size))
    have B3 := Lib.hid (B2.out.trans (qb.mono B2.out.size))
    clear hR hrow2 qa q12 qb q2 HAL HRW HRD
    unfold evV at HSM ⊢
    go_wp2_with fail
    refine HSM.out.mono ?_
    rintro r w3 ⟨rfl, q3⟩
    have B4 := Lib.hid (B3.out.trans (q3.mono B3.out.size))
    have HI4 := Lib.hid (HID.out w3 B4.out)
    clear q3 k0 k1 k2 k3 k4 HSM HID
    go_wp2_with fail
    refine HI4.out.mono ?_
    rintro r w5 ⟨rfl, q5⟩
    have B5 := Lib.hid (B4.out.trans (q5.mono B4.out.size))
    clear q5 HI4
    go_wp2_with fail
    refine (HRI.out w5).mono ?_
    rintro r w6 ⟨rfl, q6⟩
    have B6 := Lib.hid (B5.out.trans (q6.mono B5.out.size))
    have HA6 := Lib.hid (HAW.out w6 B6.out)
    clear q6 HRI HAW
    go_wp2_with fail
    refine HA6.out.mono ?_
    rintro r w7 ⟨rfl, q7⟩
    have B7 := Lib.hid (B6.out.trans (q7.mono B6.out.size))
    clear q7
    go_wp2
    go_ret
    exact ⟨rfl, B7.out⟩
  · have HAL := Lib.hid (fun (r2 : Ending) (w2 : World) (h2 : RdP s r2 w2) => alike_no hF h2)
    clear hF
    unfold evV
    simp only [zero, List.length_nil]
    go_wp2_with fail
    refine (HRD.out _).mono ?_
    rintro r w2 ⟨hR, q2⟩
    obtain rfl := HAL.out _ _ hR
    have qa := alloc_below w1 (.cells #[.int .i64 0, .string ⟨#[]⟩, .slice none 0 0, .string ⟨#[]⟩, .string ⟨#[]⟩] 25)
    have q12 := qa.trans (q2.mono qa.size)
    have B2 := Lib.hid (B1.out.trans (q12.mono B1.out.size))
    have qb := alloc_below w2 (.cells #[.int .i64 0, .string ⟨#[]⟩, .slice none 0 0, .string ⟨#[]⟩, .string ⟨#[]⟩] 25)
    have HSM := Lib.hid (same_true (w2.alloc (.cells #[.int .i64 0, .string ⟨#[]⟩, .slice none 0 0, .string ⟨#[]⟩, .string ⟨#[]⟩] 25)) zero none none 0 0 (.inl rfl) (.inl rfl) (by decide))
    obtain ⟨k0, k1, k2, k3, k4⟩ := box_cells (q2.trans (qb.mono q2.size))
    have B3 := Lib.hid (B2.out.trans (qb.mono B2.out.size))
    clear hR qa q12 qb q2 HAL HRD
    unfold evV at HSM ⊢
    simp only [zero, List.length_nil] at HSM ⊢
    go_wp2_with fail
    refine HSM.out.mono ?_
    rintro r w3 ⟨rfl, q3⟩
    have B4 := Lib.hid (B3.out.trans (q3.mono B3.out.size))
    have HI4 := Lib.hid (HID.out w3 B4.out)
    clear q3 k0 k1 k2 k3 k4 HSM HID
    go_wp2_with fail
    refine HI4.out.mono ?_
    rintro r w5 ⟨rfl, q5⟩
    have B5 := Lib.hid (B4.out.trans (q5.mono B4.out.size))
    clear q5 HI4
    go_wp2_with fail
    refine (HRI.out w5).mono ?_
    rintro r w6 ⟨rfl, q6⟩
    have B6 := Lib.hid (B5.out.trans (q6.mono B5.out.size))
    have HA6 := Lib.hid (HAW.out w6 B6.out)
    clear q6 HRI HAW
    go_wp2_with fail
    refine HA6.out.mono ?_
    rintro r w7 ⟨rfl, q7⟩
    have B7 := Lib.hid (B6.out.trans (q7.mono B6.out.size))
    clear q7
    go_wp2
    go_ret
    exact ⟨rfl, B7.out⟩

theorem own : ownKnob Tryd.prog.godebug = none := by kernel_rfl
theorem laidOut : laidOutB Tryd.prog = true := by kernel_rfl

set_option maxRecDepth 100000 in
theorem contract (H : Type) (enc : TypeId × Value → H) (W : World) (base : Nat) (args : Array Value) (ds gs : List (DataW H)) (before : List MemPlace)
    (hval : ∀ (j : Nat) t v, Tryd.f3.params[j]? = some t → args[j]? = some v → Value.okWide Tryd.prog W .any base t v)
    (hW : DataW.Whole enc Tryd.prog Tryd.f3.params.toList Rows.eventDecodesSpec.vars false W args.toList ds gs before) (hL : laidMetH Tryd.prog Rows.eventDecodesRow.laid W) :
    Calls Tryd.prog 3 args W fun e W' => ∃ v, e = .returned v ∧ Rows.eventDecodesSpec.post enc Tryd.prog Tryd.f3 false true false false W args v W' := by
  have hW' := hW
  obtain ⟨p, q, hA0, hV, rfl, hfz, hnd⟩ := hW
  have hA : DataW.TrodAll enc Tryd.prog W 0 (fun _ => true) true Tryd.f3.params.toList args.toList ds p := hA0
  rw [Tryd.params3] at hA hval
  obtain ⟨v0, vs0, d0, ds0, p0, q0, hargs, rfl, rfl, h0, r0⟩ := trodAll_cons hA
  obtain ⟨rfl, rfl, rfl⟩ := trodAll_nil r0
  obtain rfl : args = #[v0] := by cases args; simp_all
  obtain ⟨rfl, rfl⟩ := trodVars_none hV
  obtain ⟨a0, rfl, rfl, rfl, w0⟩ := open_string Tryd.underlying9 (hval 0 9 v0 rfl rfl) h0
  clear hA0
  refine (walk a0 w0 W (tabs_of_laid hL)).mono fun e W' ⟨he, bel⟩ => ?_
  subst he
  exact ⟨_, rfl, _, _, _, [], [], [], hW', trodAll_mk1 (shut_bool Tryd.underlying4 _), (trodAll_cons_mk (shut_string Tryd.underlying9 w0) trodAll_mk0), rfl, bel.frame _, fun h => by cases h⟩

theorem laid_met (os : Os) : laidMet Tryd.prog Rows.eventDecodesRow.laid (({ World.holding Tryd.prog os ⟨#[], #[], []⟩ with heap := ((World.holding Tryd.prog os ⟨#[], #[], []⟩).heap.modify 0 fun | .cells _ t frozen => .cells #[.int .u32 1779033703, .int .u32 3144134277, .int .u32 1013904242, .int .u32 2773480762, .int .u32 1359893119, .int .u32 2600822924, .int .u32 528734635, .int .u32 1541459225] t frozen | o => o).modify 1 fun | .cells _ t frozen => .cells #[.int .u32 1116352408, .int .u32 1899447441, .int .u32 3049323471, .int .u32 3921009573, .int .u32 961987163, .int .u32 1508970993, .int .u32 2453635748, .int .u32 2870763221, .int .u32 3624381080, .int .u32 310598401, .int .u32 607225278, .int .u32 1426881987, .int .u32 1925078388, .int .u32 2162078206, .int .u32 2614888103, .int .u32 3248222580, .int .u32 3835390401, .int .u32 4022224774, .int .u32 264347078, .int .u32 604807628, .int .u32 770255983, .int .u32 1249150122, .int .u32 1555081692, .int .u32 1996064986, .int .u32 2554220882, .int .u32 2821834349, .int .u32 2952996808, .int .u32 3210313671, .int .u32 3336571891, .int .u32 3584528711, .int .u32 113926993, .int .u32 338241895, .int .u32 666307205, .int .u32 773529912, .int .u32 1294757372, .int .u32 1396182291, .int .u32 1695183700, .int .u32 1986661051, .int .u32 2177026350, .int .u32 2456956037, .int .u32 2730485921, .int .u32 2820302411, .int .u32 3259730800, .int .u32 3345764771, .int .u32 3516065817, .int .u32 3600352804, .int .u32 4094571909, .int .u32 275423344, .int .u32 430227734, .int .u32 506948616, .int .u32 659060556, .int .u32 883997877, .int .u32 958139571, .int .u32 1322822218, .int .u32 1537002063, .int .u32 1747873779, .int .u32 1955562222, .int .u32 2024104815, .int .u32 2227730452, .int .u32 2361852424, .int .u32 2428436474, .int .u32 2756734187, .int .u32 3204031479, .int .u32 3329325298] t frozen | o => o } : World).forCall (fun _ _ => 0) ⟨#[], #[.string ByteArray.empty], []⟩).memory :=
  laidMet_of_run' 8 (by kernel_rfl) (by kernel_rfl)
theorem reads (os : Os) {H : Type} (enc : TypeId × Value → H) : ∃ places, DataW.whole enc Tryd.prog (({ World.holding Tryd.prog os ⟨#[], #[], []⟩ with heap := ((World.holding Tryd.prog os ⟨#[], #[], []⟩).heap.modify 0 fun | .cells _ t frozen => .cells #[.int .u32 1779033703, .int .u32 3144134277, .int .u32 1013904242, .int .u32 2773480762, .int .u32 1359893119, .int .u32 2600822924, .int .u32 528734635, .int .u32 1541459225] t frozen | o => o).modify 1 fun | .cells _ t frozen => .cells #[.int .u32 1116352408, .int .u32 1899447441, .int .u32 3049323471, .int .u32 3921009573, .int .u32 961987163, .int .u32 1508970993, .int .u32 2453635748, .int .u32 2870763221, .int .u32 3624381080, .int .u32 310598401, .int .u32 607225278, .int .u32 1426881987, .int .u32 1925078388, .int .u32 2162078206, .int .u32 2614888103, .int .u32 3248222580, .int .u32 3835390401, .int .u32 4022224774, .int .u32 264347078, .int .u32 604807628, .int .u32 770255983, .int .u32 1249150122, .int .u32 1555081692, .int .u32 1996064986, .int .u32 2554220882, .int .u32 2821834349, .int .u32 2952996808, .int .u32 3210313671, .int .u32 3336571891, .int .u32 3584528711, .int .u32 113926993, .int .u32 338241895, .int .u32 666307205, .int .u32 773529912, .int .u32 1294757372, .int .u32 1396182291, .int .u32 1695183700, .int .u32 1986661051, .int .u32 2177026350, .int .u32 2456956037, .int .u32 2730485921, .int .u32 2820302411, .int .u32 3259730800, .int .u32 3345764771, .int .u32 3516065817, .int .u32 3600352804, .int .u32 4094571909, .int .u32 275423344, .int .u32 430227734, .int .u32 506948616, .int .u32 659060556, .int .u32 883997877, .int .u32 958139571, .int .u32 1322822218, .int .u32 1537002063, .int .u32 1747873779, .int .u32 1955562222, .int .u32 2024104815, .int .u32 2227730452, .int .u32 2361852424, .int .u32 2428436474, .int .u32 2756734187, .int .u32 3204031479, .int .u32 3329325298] t frozen | o => o } : World).forCall (fun _ _ => 0) ⟨#[], #[.string ByteArray.empty], []⟩).memory Tryd.f3.params.toList Rows.eventDecodesSpec.vars false (#[.string ByteArray.empty] : Array Value).toList 8 = some ([.lit (.string [])], [], places) :=
  ⟨[], by kernel_rfl⟩

set_option maxRecDepth 100000 in
theorem lifted (os : Os) (started : os.Started) (H : Type) (enc : TypeId × Value → H) (F : Stop.Interp) :
    ReturnsInHanded {} Tryd.checked os 3 .any ((OpenSpec.ofChange Rows.eventDecodesSpec).preRow enc Tryd.prog Tryd.f3 Rows.eventDecodesRow.domain false Rows.eventDecodesRow.laid) (((OpenSpec.ofChange Rows.eventDecodesSpec).at F).post enc Tryd.prog Tryd.f3 false true false false) := by
  obtain ⟨places, hx⟩ := reads os enc
  refine returnsInHanded_of_row (C := Tryd.checked) (s := OpenSpec.ofChange Rows.eventDecodesSpec) own started (by kernel_rfl) Tryd.func3
    (witness_row_at (enc := enc) (C := Tryd.checked) false ({ World.holding Tryd.prog os ⟨#[], #[], []⟩ with heap := ((World.holding Tryd.prog os ⟨#[], #[], []⟩).heap.modify 0 fun | .cells _ t frozen => .cells #[.int .u32 1779033703, .int .u32 3144134277, .int .u32 1013904242, .int .u32 2773480762, .int .u32 1359893119, .int .u32 2600822924, .int .u32 528734635, .int .u32 1541459225] t frozen | o => o).modify 1 fun | .cells _ t frozen => .cells #[.int .u32 1116352408, .int .u32 1899447441, .int .u32 3049323471, .int .u32 3921009573, .int .u32 961987163, .int .u32 1508970993, .int .u32 2453635748, .int .u32 2870763221, .int .u32 3624381080, .int .u32 310598401, .int .u32 607225278, .int .u32 1426881987, .int .u32 1925078388, .int .u32 2162078206, .int .u32 2614888103, .int .u32 3248222580, .int .u32 3835390401, .int .u32 4022224774, .int .u32 264347078, .int .u32 604807628, .int .u32 770255983, .int .u32 1249150122, .int .u32 1555081692, .int .u32 1996064986, .int .u32 2554220882, .int .u32 2821834349, .int .u32 2952996808, .int .u32 3210313671, .int .u32 3336571891, .int .u32 3584528711, .int .u32 113926993, .int .u32 338241895, .int .u32 666307205, .int .u32 773529912, .int .u32 1294757372, .int .u32 1396182291, .int .u32 1695183700, .int .u32 1986661051, .int .u32 2177026350, .int .u32 2456956037, .int .u32 2730485921, .int .u32 2820302411, .int .u32 3259730800, .int .u32 3345764771, .int .u32 3516065817, .int .u32 3600352804, .int .u32 4094571909, .int .u32 275423344, .int .u32 430227734, .int .u32 506948616, .int .u32 659060556, .int .u32 883997877, .int .u32 958139571, .int .u32 1322822218, .int .u32 1537002063, .int .u32 1747873779, .int .u32 1955562222, .int .u32 2024104815, .int .u32 2227730452, .int .u32 2361852424, .int .u32 2428436474, .int .u32 2756734187, .int .u32 3204031479, .int .u32 3329325298] t frozen | o => o } : World) #[.string ByteArray.empty] rfl (by kernel_rfl) (by kernel_rfl) (by kernel_rfl)
      (OpenSpec.preRow_of_cond 8 hx (by kernel_rfl) (fun k hk => by cases hk) (by kernel_rfl) (laid_met os))) ?_
  intro W base args ds gs before hval hW _ _ _ hL _ _
  exact contract H enc W base args ds gs before hval hW hL

theorem said : Rows.EventDecodesSaid :=
  OpenClaim.holds_of_cond 3 Tryd.f3 rfl rfl rfl rfl rfl rfl rfl ⟨rfl, rfl, rfl, rfl, rfl⟩ rfl rfl rfl rfl rfl (by kernel_rfl) Tryd.func3 (by kernel_rfl)
    (of_decide_eq_true (by kernel_rfl)) (by unfold Func.isWrapper; first | (rw [if_pos (by decide +kernel)]; kernel_rfl) | (rw [if_neg (by decide +kernel)]; exact ⟨rfl, rfl⟩))
    (fun os started H enc _ F => by rw [OpenClaim.pre_eq_preRow]; exact lifted os started H enc F)

theorem plain (f : FuncId) (fn : Func) (hf : Tryd.pinned.checked.prog.funcNamed Rows.eventDecodesRow.func = some f) (hfn : Tryd.pinned.checked.prog.funcs[f]? = some fn) :
    false = Tryd.pinned.checked.prog.looks [] ∧ ∀ (j : Nat) t, fn.params[j]? = some t → Tryd.pinned.checked.prog.wantsStandIn t = false := by
  obtain rfl : f = 3 := Option.some.inj ((show Tryd.prog.funcNamed Rows.eventDecodesRow.func = some 3 by kernel_rfl).symm.trans hf) |>.symm
  obtain rfl : fn = Tryd.f3 := (Option.some.inj (Tryd.func3.symm.trans hfn)).symm
  refine ⟨by kernel_rfl, fun j t ht => ?_⟩
  rw [Tryd.params3] at ht
  have hm : t = 9 := by first | simpa using Array.mem_of_getElem? ht | (have h := Array.mem_of_getElem? ht; simp only [List.mem_toArray, List.mem_cons, List.not_mem_nil, or_false] at h; rcases h with rfl <;> simp)
  rcases hm with rfl
  · exact (show Tryd.prog.wantsStandIn 9 = false by kernel_rfl)

theorem card : Rows.EventDecodesCardSaid :=
  Claim7.holds_tied_plain_at .later [] _ _ _ _ said (fun _ h => by cases h) (by kernel_rfl) (fun _ h => by cases h) eventDecodes_row_tie rfl ⟨rfl, rfl⟩ (by kernel_rfl) rfl plain (by kernel_rfl)

end Go.Proofs.YtkdbbbmoalijhaaDoor.EventDecodes
namespace Go.Proofs.YtkdbbbmoalijhaaDoor
theorem eventDecodes_card : Rows.EventDecodesCardSaid := EventDecodes.card
#print axioms eventDecodes_card
end Go.Proofs.YtkdbbbmoalijhaaDoor

