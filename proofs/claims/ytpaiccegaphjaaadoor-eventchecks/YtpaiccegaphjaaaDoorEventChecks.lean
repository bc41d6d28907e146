/-
  P6.2: what is wrong with any event: for every event.
  The tables of the program start as its text lays them (the card ties them).
-/
import Derived.Test.YtpaiccegaphjaaaDoorLaid
import Derived.Test.YtpaiccegaphjaaaDoorE5
import Derived.Test.YtpaiccegaphjaaaDoorE6
import Derived.Test.YtpaiccegaphjaaaDoorE13
import Derived.Test.YtpaiccegaphjaaaDoorE14
import Derived.Test.YtpaiccegaphjaaaDoorEOpen
import Derived.ProofKit
import Derived.OpenShut
import Derived.ShutString
import Derived.ChangeOld
import Derived.SevenTiedAt
import Derived.SliceStrings
namespace Go.Proofs.YtpaiccegaphjaaaDoor.EventChecks
open Go.ChangeShapes Go.WideShapes Go.ChangeAt Go.RowKit Go.Pal Go.Pal.Fr Go.Pal.Ev
open Go.ChangeMaps (open_string shut_string)
set_option linter.unusedVariables false

set_option maxHeartbeats 2000000 in
set_option maxRecDepth 100000 in
theorem walk (e : E) (a : Option Addr) (c : Nat) (w : World) (he : Came w e a c) (ht : Tabs w) :
    Calls Tryd.prog 3 #[evV e a c] w fun r w' => r = .returned (.bool true) ∧ Below w.heap.size w w' := by
  cases hX : evOk e
  · have HCK := Lib.hid (fun W (hb : Below w.heap.size w W) => check_no W e a c (he.below hb) hX)
    have HG1 := Lib.hid (great_any (w.alloc (.cells #[.int .i64 e.kind, .string e.author, .slice a e.parents.length c, .string e.body, .string e.sig] 24)) e a c (he.row.below (alloc_below w _)) he.len he.each)
    have HAW := Lib.hid (fun (W : World) (hb : Below w.heap.size w W) => awake6 W (ht.below hb))
    have HRR := Lib.hid (fun W (hb : Below w.heap.size w W) => refright_any W e a c (he.row.below hb) he.len he.each he.body)
    rw [hX] at HRR
    clear he ht hX
    unfold evV at HG1 HRR HCK ⊢
    go_enter Tryd.func3, Tryd.ntmps3
    go_wp2_with fail
    refine HG1.out.mono ?_
    rintro r w1 ⟨⟨g, rfl⟩, q1⟩
    have Q1 := Lib.hid q1
    have B1 := Lib.hid ((alloc_below w _).trans (q1.mono (alloc_below w _).size))
    obtain ⟨c0, c1, c2, c3, c4⟩ := box_cells q1
    clear q1 HG1
    cases g
    case true =>
      have HA1 := Lib.hid (HAW.out w1 B1.out)
      clear c0 c1 c2 c3 c4
      go_wp2_with fail
      refine HA1.out.mono ?_
      rintro r w2 ⟨rfl, q2⟩
      have B2 := Lib.hid (B1.out.trans (q2.mono B1.out.size))
      clear q2
      go_wp2
      go_ret
      exact ⟨rfl, B2.out⟩
    have HR1 := Lib.hid (HRR.out w1 B1.out)
    go_wp2_with fail
    refine HR1.out.mono ?_
    rintro r w2 ⟨rfl, q2⟩
    have Q2 := Lib.hid (Q1.out.trans (q2.mono Q1.out.size))
    have B2 := Lib.hid (B1.out.trans (q2.mono B1.out.size))
    clear q2 c0 c1 c2 c3 c4 HR1 HRR
    obtain ⟨c0, c1, c2, c3, c4⟩ := box_cells Q2.out
    have HC := Lib.hid (HCK.out w2 B2.out)
    go_wp2_with fail
    refine HC.out.mono ?_
    rintro r w5 ⟨rfl, q5⟩
    have B5 := Lib.hid (B2.out.trans (q5.mono B2.out.size))
    have HA5 := Lib.hid (HAW.out w5 B5.out)
    clear q5 HC HCK c0 c1 c2 c3 c4
    go_wp2_with fail
    refine HA5.out.mono ?_
    rintro r w6 ⟨rfl, q6⟩
    have B6 := Lib.hid (B5.out.trans (q6.mono B5.out.size))
    clear q6
    go_wp2
    go_ret
    exact ⟨rfl, B6.out⟩
  · obtain ⟨b, hv1, hv2⟩ := verify_two e.author (evC e) e.sig (by have := (evOk_all hX).2.2.2.2.2; omega) (by have := evC_size (noSig_ok hX); omega)
    have HCK := Lib.hid (fun W (hb : Below w.heap.size w W) => check_yes W e a c (he.below hb) hX (ht.below hb) b hv1)
    have HSG := Lib.hid (fun W (hb : Below w.heap.size w W) => refsigned_any W e a c (he.row.below hb) hX b hv2)
    clear hv1 hv2
    have HG1 := Lib.hid (great_any (w.alloc (.cells #[.int .i64 e.kind, .string e.author, .slice a e.parents.length c, .string e.body, .string e.sig] 24)) e a c (he.row.below (alloc_below w _)) he.len he.each)
    have HAW := Lib.hid (fun (W : World) (hb : Below w.heap.size w W) => awake6 W (ht.below hb))
    have HRR := Lib.hid (fun W (hb : Below w.heap.size w W) => refright_any W e a c (he.row.below hb) he.len he.each he.body)
    rw [hX] at HRR
    clear he ht hX
    unfold evV at HG1 HRR HCK ⊢
    go_enter Tryd.func3, Tryd.ntmps3
    go_wp2_with fail
    refine HG1.out.mono ?_
    rintro r w1 ⟨⟨g, rfl⟩, q1⟩
    have Q1 := Lib.hid q1
    have B1 := Lib.hid ((alloc_below w _).trans (q1.mono (alloc_below w _).size))
    obtain ⟨c0, c1, c2, c3, c4⟩ := box_cells q1
    clear q1 HG1
    cases g
    case true =>
      have HA1 := Lib.hid (HAW.out w1 B1.out)
      clear c0 c1 c2 c3 c4
      go_wp2_with fail
      refine HA1.out.mono ?_
      rintro r w2 ⟨rfl, q2⟩
      have B2 := Lib.hid (B1.out.trans (q2.mono B1.out.size))
      clear q2
      go_wp2
      go_ret
      exact ⟨rfl, B2.out⟩
    have HR1 := Lib.hid (HRR.out w1 B1.out)
    go_wp2_with fail
    refine HR1.out.mono ?_
    rintro r w2 ⟨rfl, q2⟩
    have Q2 := Lib.hid (Q1.out.trans (q2.mono Q1.out.size))
    have B2 := Lib.hid (B1.out.trans (q2.mono B1.out.size))
    clear q2 c0 c1 c2 c3 c4 HR1 HRR
    obtain ⟨c0, c1, c2, c3, c4⟩ := box_cells Q2.out
    unfold evV at HSG
    have HS2 := Lib.hid (HSG.out w2 B2.out)
    go_wp2_with fail
    refine HS2.out.mono ?_
    rintro r w3 ⟨rfl, q3⟩
    have Q3 := Lib.hid (Q2.out.trans (q3.mono Q2.out.size))
    have B3 := Lib.hid (B2.out.trans (q3.mono B2.out.size))
    clear q3 c0 c1 c2 c3 c4 HS2 HSG
    obtain ⟨c0, c1, c2, c3, c4⟩ := box_cells Q3.out
    cases b
    ·
      have HC := Lib.hid (HCK.out w3 B3.out)
      go_wp2_with fail
      refine HC.out.mono ?_
      rintro r w5 ⟨rfl, q5⟩
      have B5 := Lib.hid (B3.out.trans (q5.mono B3.out.size))
      have HA5 := Lib.hid (HAW.out w5 B5.out)
      clear q5 HC HCK c0 c1 c2 c3 c4
      go_wp2_with fail
      refine HA5.out.mono ?_
      rintro r w6 ⟨rfl, q6⟩
      have B6 := Lib.hid (B5.out.trans (q6.mono B5.out.size))
      clear q6
      go_wp2
      go_ret
      exact ⟨rfl, B6.out⟩
    ·
      have HC := Lib.hid (HCK.out w3 B3.out)
      go_wp2_with fail
      refine HC.out.mono ?_
      rintro r w5 ⟨rfl, q5⟩
      have B5 := Lib.hid (B3.out.trans (q5.mono B3.out.size))
      have HA5 := Lib.hid (HAW.out w5 B5.out)
      clear q5 HC HCK c0 c1 c2 c3 c4
      go_wp2_with fail
      refine HA5.out.mono ?_
      rintro r w6 ⟨rfl, q6⟩
      have B6 := Lib.hid (B5.out.trans (q6.mono B5.out.size))
      clear q6
      go_wp2
      go_ret
      exact ⟨rfl, B6.out⟩

theorem own : ownKnob Tryd.prog.godebug = none := by kernel_rfl
theorem laidOut : laidOutB Tryd.prog = true := by kernel_rfl

set_option maxRecDepth 100000 in
theorem contract (H : Type) (enc : TypeId × Value → H) (W : World) (base : Nat) (args : Array Value) (ds gs : List (DataW H)) (before : List MemPlace)
    (hval : ∀ (j : Nat) t v, Tryd.f3.params[j]? = some t → args[j]? = some v → Value.okWide Tryd.prog W .any base t v)
    (hW : DataW.Whole enc Tryd.prog Tryd.f3.params.toList Rows.eventChecksSpec.vars false W args.toList ds gs before) (hL : laidMetH Tryd.prog Rows.eventChecksRow.laid W) :
    Calls Tryd.prog 3 args W fun e W' => ∃ v, e = .returned v ∧ Rows.eventChecksSpec.post enc Tryd.prog Tryd.f3 false true false false W args v W' := by
  have hW' := hW
  obtain ⟨p, q, hA0, hV, rfl, hfz, hnd⟩ := hW
  have hA : DataW.TrodAll enc Tryd.prog W 0 (fun _ => true) true Tryd.f3.params.toList args.toList ds p := hA0
  rw [Tryd.params3] at hA hval
  obtain ⟨v0, vs0, d0, ds0, p0, q0, hargs, rfl, rfl, h0, r0⟩ := trodAll_cons hA
  obtain ⟨rfl, rfl, rfl⟩ := trodAll_nil r0
  obtain rfl : args = #[v0] := by cases args; simp_all
  obtain ⟨rfl, rfl⟩ := trodVars_none hV
  have k0 := h0
  have lt0 : ∀ x ∈ p0, x.block < W.heap.size := by obtain ⟨m, hm⟩ := k0; exact DataW.trod_lt m _ _ _ hm
  obtain ⟨e0, a0, c0, rfl, i0, _⟩ := open_event (hval 0 24 v0 rfl rfl) h0
  clear hA0
  refine (walk e0 a0 c0 W i0 (tabs_of_laid hL)).mono fun e W' ⟨he, bel⟩ => ?_
  subst he
  exact ⟨_, rfl, _, _, _, [], _, [], hW', trodAll_mk1 (shut_bool Tryd.underlying4 _), (trodAll_cons_mk (Below.trod laidOut (by kernel_rfl) (of_decide_eq_true (by kernel_rfl)) k0 bel lt0) trodAll_mk0), rfl, bel.frame _, fun h => by cases h⟩

theorem laid_met (os : Os) : laidMet Tryd.prog Rows.eventChecksRow.laid (({ World.holding Tryd.prog os ⟨#[], #[], []⟩ with heap := ((World.holding Tryd.prog os ⟨#[], #[], []⟩).heap.modify 0 fun | .cells _ t frozen => .cells #[.int .u32 1779033703, .int .u32 3144134277, .int .u32 1013904242, .int .u32 2773480762, .int .u32 1359893119, .int .u32 2600822924, .int .u32 528734635, .int .u32 1541459225] t frozen | o => o).modify 1 fun | .cells _ t frozen => .cells #[.int .u32 1116352408, .int .u32 1899447441, .int .u32 3049323471, .int .u32 3921009573, .int .u32 961987163, .int .u32 1508970993, .int .u32 2453635748, .int .u32 2870763221, .int .u32 3624381080, .int .u32 310598401, .int .u32 607225278, .int .u32 1426881987, .int .u32 1925078388, .int .u32 2162078206, .int .u32 2614888103, .int .u32 3248222580, .int .u32 3835390401, .int .u32 4022224774, .int .u32 264347078, .int .u32 604807628, .int .u32 770255983, .int .u32 1249150122, .int .u32 1555081692, .int .u32 1996064986, .int .u32 2554220882, .int .u32 2821834349, .int .u32 2952996808, .int .u32 3210313671, .int .u32 3336571891, .int .u32 3584528711, .int .u32 113926993, .int .u32 338241895, .int .u32 666307205, .int .u32 773529912, .int .u32 1294757372, .int .u32 1396182291, .int .u32 1695183700, .int .u32 1986661051, .int .u32 2177026350, .int .u32 2456956037, .int .u32 2730485921, .int .u32 2820302411, .int .u32 3259730800, .int .u32 3345764771, .int .u32 3516065817, .int .u32 3600352804, .int .u32 4094571909, .int .u32 275423344, .int .u32 430227734, .int .u32 506948616, .int .u32 659060556, .int .u32 883997877, .int .u32 958139571, .int .u32 1322822218, .int .u32 1537002063, .int .u32 1747873779, .int .u32 1955562222, .int .u32 2024104815, .int .u32 2227730452, .int .u32 2361852424, .int .u32 2428436474, .int .u32 2756734187, .int .u32 3204031479, .int .u32 3329325298] t frozen | o => o } : World).forCall (fun _ _ => 0) ⟨#[], #[.agg #[.int .i64 0, .string ByteArray.empty, .slice none 0 0, .string ByteArray.empty, .string ByteArray.empty]], []⟩).memory :=
  laidMet_of_run' 8 (by kernel_rfl) (by kernel_rfl)
theorem reads (os : Os) {H : Type} (enc : TypeId × Value → H) : ∃ places, DataW.whole enc Tryd.prog (({ World.holding Tryd.prog os ⟨#[], #[], []⟩ with heap := ((World.holding Tryd.prog os ⟨#[], #[], []⟩).heap.modify 0 fun | .cells _ t frozen => .cells #[.int .u32 1779033703, .int .u32 3144134277, .int .u32 1013904242, .int .u32 2773480762, .int .u32 1359893119, .int .u32 2600822924, .int .u32 528734635, .int .u32 1541459225] t frozen | o => o).modify 1 fun | .cells _ t frozen => .cells #[.int .u32 1116352408, .int .u32 1899447441, .int .u32 3049323471, .int .u32 3921009573, .int .u32 961987163, .int .u32 1508970993, .int .u32 2453635748, .int .u32 2870763221, .int .u32 3624381080, .int .u32 310598401, .int .u32 607225278, .int .u32 1426881987, .int .u32 1925078388, .int .u32 2162078206, .int .u32 2614888103, .int .u32 3248222580, .int .u32 3835390401, .int .u32 4022224774, .int .u32 264347078, .int .u32 604807628, .int .u32 770255983, .int .u32 1249150122, .int .u32 1555081692, .int .u32 1996064986, .int .u32 2554220882, .int .u32 2821834349, .int .u32 2952996808, .int .u32 3210313671, .int .u32 3336571891, .int .u32 3584528711, .int .u32 113926993, .int .u32 338241895, .int .u32 666307205, .int .u32 773529912, .int .u32 1294757372, .int .u32 1396182291, .int .u32 1695183700, .int .u32 1986661051, .int .u32 2177026350, .int .u32 2456956037, .int .u32 2730485921, .int .u32 2820302411, .int .u32 3259730800, .int .u32 3345764771, .int .u32 3516065817, .int .u32 3600352804, .int .u32 4094571909, .int .u32 275423344, .int .u32 430227734, .int .u32 506948616, .int .u32 659060556, .int .u32 883997877, .int .u32 958139571, .int .u32 1322822218, .int .u32 1537002063, .int .u32 1747873779, .int .u32 1955562222, .int .u32 2024104815, .int .u32 2227730452, .int .u32 2361852424, .int .u32 2428436474, .int .u32 2756734187, .int .u32 3204031479, .int .u32 3329325298] t frozen | o => o } : World).forCall (fun _ _ => 0) ⟨#[], #[.agg #[.int .i64 0, .string ByteArray.empty, .slice none 0 0, .string ByteArray.empty, .string ByteArray.empty]], []⟩).memory Tryd.f3.params.toList Rows.eventChecksSpec.vars false (#[.agg #[.int .i64 0, .string ByteArray.empty, .slice none 0 0, .string ByteArray.empty, .string ByteArray.empty]] : Array Value).toList 8 = some ([.agg [.lit (.int .i64 0), .lit (.string []), .nil, .lit (.string []), .lit (.string [])]], [], places) :=
  ⟨[], by kernel_rfl⟩

set_option maxRecDepth 100000 in
theorem lifted (os : Os) (started : os.Started) (H : Type) (enc : TypeId × Value → H) (F : Stop.Interp) :
    ReturnsInHanded {} Tryd.checked os 3 .any ((OpenSpec.ofChange Rows.eventChecksSpec).preRow enc Tryd.prog Tryd.f3 Rows.eventChecksRow.domain false Rows.eventChecksRow.laid) (((OpenSpec.ofChange Rows.eventChecksSpec).at F).post enc Tryd.prog Tryd.f3 false true false false) := by
  obtain ⟨places, hx⟩ := reads os enc
  refine returnsInHanded_of_row (C := Tryd.checked) (s := OpenSpec.ofChange Rows.eventChecksSpec) own started (by kernel_rfl) Tryd.func3
    (witness_row_at (enc := enc) (C := Tryd.checked) false ({ World.holding Tryd.prog os ⟨#[], #[], []⟩ with heap := ((World.holding Tryd.prog os ⟨#[], #[], []⟩).heap.modify 0 fun | .cells _ t frozen => .cells #[.int .u32 1779033703, .int .u32 3144134277, .int .u32 1013904242, .int .u32 2773480762, .int .u32 1359893119, .int .u32 2600822924, .int .u32 528734635, .int .u32 1541459225] t frozen | o => o).modify 1 fun | .cells _ t frozen => .cells #[.int .u32 1116352408, .int .u32 1899447441, .int .u32 3049323471, .int .u32 3921009573, .int .u32 961987163, .int .u32 1508970993, .int .u32 2453635748, .int .u32 2870763221, .int .u32 3624381080, .int .u32 310598401, .int .u32 607225278, .int .u32 1426881987, .int .u32 1925078388, .int .u32 2162078206, .int .u32 2614888103, .int .u32 3248222580, .int .u32 3835390401, .int .u32 4022224774, .int .u32 264347078, .int .u32 604807628, .int .u32 770255983, .int .u32 1249150122, .int .u32 1555081692, .int .u32 1996064986, .int .u32 2554220882, .int .u32 2821834349, .int .u32 2952996808, .int .u32 3210313671, .int .u32 3336571891, .int .u32 3584528711, .int .u32 113926993, .int .u32 338241895, .int .u32 666307205, .int .u32 773529912, .int .u32 1294757372, .int .u32 1396182291, .int .u32 1695183700, .int .u32 1986661051, .int .u32 2177026350, .int .u32 2456956037, .int .u32 2730485921, .int .u32 2820302411, .int .u32 3259730800, .int .u32 3345764771, .int .u32 3516065817, .int .u32 3600352804, .int .u32 4094571909, .int .u32 275423344, .int .u32 430227734, .int .u32 506948616, .int .u32 659060556, .int .u32 883997877, .int .u32 958139571, .int .u32 1322822218, .int .u32 1537002063, .int .u32 1747873779, .int .u32 1955562222, .int .u32 2024104815, .int .u32 2227730452, .int .u32 2361852424, .int .u32 2428436474, .int .u32 2756734187, .int .u32 3204031479, .int .u32 3329325298] t frozen | o => o } : World) #[.agg #[.int .i64 0, .string ByteArray.empty, .slice none 0 0, .string ByteArray.empty, .string ByteArray.empty]] rfl (by kernel_rfl) (by kernel_rfl) (by kernel_rfl)
      (OpenSpec.preRow_of_cond 8 hx (by kernel_rfl) (fun k hk => by cases hk) (by kernel_rfl) (laid_met os))) ?_
  intro W base args ds gs before hval hW _ _ _ hL _ _
  exact contract H enc W base args ds gs before hval hW hL

theorem said : Rows.EventChecksSaid :=
  OpenClaim.holds_of_cond 3 Tryd.f3 rfl rfl rfl rfl rfl rfl rfl ⟨rfl, rfl, rfl, rfl, rfl⟩ rfl rfl rfl rfl rfl (by kernel_rfl) Tryd.func3 (by kernel_rfl)
    (of_decide_eq_true (by kernel_rfl)) (by unfold Func.isWrapper; first | (rw [if_pos (by decide +kernel)]; kernel_rfl) | (rw [if_neg (by decide +kernel)]; exact ⟨rfl, rfl⟩))
    (fun os started H enc _ F => by rw [OpenClaim.pre_eq_preRow]; exact lifted os started H enc F)

theorem plain (f : FuncId) (fn : Func) (hf : Tryd.pinned.checked.prog.funcNamed Rows.eventChecksRow.func = some f) (hfn : Tryd.pinned.checked.prog.funcs[f]? = some fn) :
    false = Tryd.pinned.checked.prog.looks [] ∧ ∀ (j : Nat) t, fn.params[j]? = some t → Tryd.pinned.checked.prog.wantsStandIn t = false := by
  obtain rfl : f = 3 := Option.some.inj ((show Tryd.prog.funcNamed Rows.eventChecksRow.func = some 3 by kernel_rfl).symm.trans hf) |>.symm
  obtain rfl : fn = Tryd.f3 := (Option.some.inj (Tryd.func3.symm.trans hfn)).symm
  refine ⟨by kernel_rfl, fun j t ht => ?_⟩
  rw [Tryd.params3] at ht
  have hm : t = 24 := by first | simpa using Array.mem_of_getElem? ht | (have h := Array.mem_of_getElem? ht; simp only [List.mem_toArray, List.mem_cons, List.not_mem_nil, or_false] at h; rcases h with rfl <;> simp)
  rcases hm with rfl
  · exact (show Tryd.prog.wantsStandIn 24 = false by kernel_rfl)

theorem card : Rows.EventChecksCardSaid :=
  Claim7.holds_tied_plain_at .later [] _ _ _ _ said (fun _ h => by cases h) (by kernel_rfl) (fun _ h => by cases h) eventChecks_row_tie rfl ⟨rfl, rfl⟩ (by kernel_rfl) rfl plain (by kernel_rfl)

end Go.Proofs.YtpaiccegaphjaaaDoor.EventChecks
namespace Go.Proofs.YtpaiccegaphjaaaDoor
theorem eventChecks_card : Rows.EventChecksCardSaid := EventChecks.card
#print axioms eventChecks_card
end Go.Proofs.YtpaiccegaphjaaaDoor

