/-
  BloomKeeps: whatever ids are put in, each of 32 bytes is there; and the bits are from 8 to 512 bytes.
  No condition but what the row itself says.
-/
import Derived.Test.YtbipmeogcmmhhaaBl8
namespace Go.Proofs.Ytbipmeogcmmhhaa.BloomKeeps
open Go.ChangeShapes Go.WideShapes Go.ChangeAt Go.RowKit Go.Pal
open Go.ChangeMaps (open_string shut_string)
set_option linter.unusedVariables false

set_option maxHeartbeats 2000000 in
set_option maxRecDepth 100000 in
theorem walk (a : Option Addr) (cap : Nat) (l : List ByteArray) (w : World) (h : StrsAt w a l) :
    Calls Try.prog 13 #[.slice a l.length cap] w fun e w' => e = .returned (.bool true) ∧ Below w.heap.size w w' := by
  have HG := Lib.hid (great14_any (cap := cap) h.row h.len)
  cases hgr : greatB14 l with
  | true =>
    rw [hgr] at HG
    clear hgr h
    go_enter Try.func13, Try.ntmps13
    go_wp2_with (first
      | (go_at_call 42; refine HG.out.mono ?_; rintro e w1 ⟨rfl, rfl⟩)
      | (go_at_call 37; refine (awake14 _).mono ?_; rintro e w2 ⟨rfl, b2⟩))
    go_ret
    exact ⟨rfl, b2⟩
  | false =>
    rw [hgr] at HG
    have hl := (greatB14_no hgr).1
    have HA := Lib.hid (make_any (cap := cap) h.row (by omega))
    have HR := Lib.hid (fun W (hb : Below w.heap.size w W) h0 => bRow_some (h.row.below hb) h0)
    have HKP := Lib.hid (fun k (hk : k < l.length) => keeps l l[k] (List.getElem_mem hk))
    have hms := makeB_size l
    have hmz := sizeB_le (cntB l)
    have h8 : 8 ≤ (makeB l).size ∧ (makeB l).size ≤ 512 := by omega
    clear hgr h hms hmz
    generalize makeB l = M at *
    have HH := Lib.hid (fun x W => has_any M x (by omega) W)
    have H8 := Lib.hid h8
    clear h8
    go_enter Try.func13, Try.ntmps13
    go_wp2_with (first
      | (go_at_call 42; refine HG.out.mono ?_; rintro e w9 ⟨rfl, e9⟩; rw [e9]; clear e9 w9)
      | (go_at_call 43; refine HA.out.mono ?_; rintro e w1 ⟨rfl, b1⟩; have HB1 := Lib.hid b1; clear b1))
    go_loopw [4] (fun j wr => ∃ k : Nat, k ≤ l.length ∧ j = .int .i64 k ∧ Below w.heap.size w wr) (fun j _ => l.length - (intOf j).toNat)
    case atStart => exact ⟨0, Nat.zero_le _, rfl, HB1.out⟩
    case round =>
      obtain ⟨k, hk, rfl, hb⟩ := hrel
      by_cases hlt : k < l.length
      · obtain ⟨b, off, rfl, _, hc⟩ := HR.out wr hb (by omega)
        have ck := hc k hlt
        have HKK := Lib.hid (HKP.out k hlt)
        have HB2 := Lib.hid hb
        have k1 : (k : Int) < (l.length : Int) := by omega
        clear hc hb
        generalize l[k] = x at *
        by_cases h32 : x.size = 32
        · have d1 : ((x.size : Int) == 32) = true := by simp; omega
          have HX := Lib.hid (fun W => by have := HH.out x W; rwa [HKK.out h32] at this)
          clear h32
          go_wp2_with (go_at_call 45; refine (HX.out _).mono ?_; rintro e w3 ⟨rfl, b3⟩; have HB3 := Lib.hid (HB2.out.trans (b3.mono HB2.out.size)); clear b3)
          go_roundw
          case rel => exact ⟨k + 1, by omega, by go_num, HB3.out⟩
          case measure => simp [intOf]; omega
        · have d1 : ((x.size : Int) == 32) = false := by simp; omega
          clear h32
          go_wp2
          go_roundw
          case rel => exact ⟨k + 1, by omega, by go_num, HB2.out⟩
          case measure => simp [intOf]; omega
      · have HB2 := Lib.hid hb
        have g1 : decide (8 ≤ (M.size : Int)) = true := decide_eq_true (by have := H8.out; omega)
        have g2 : decide ((M.size : Int) ≤ 512) = true := decide_eq_true (by have := H8.out; omega)
        clear hb
        go_wp2_with (go_at_call 37; refine (awake14 _).mono ?_; rintro e w2 ⟨rfl, b2⟩)
        go_ret
        exact ⟨rfl, HB2.out.trans (b2.mono HB2.out.size)⟩

theorem own : ownKnob Try.prog.godebug = none := by kernel_rfl
theorem laidOut : laidOutB Try.prog = true := by kernel_rfl

set_option maxRecDepth 100000 in
theorem lifted (os : Os) (started : os.Started) (H : Type) (enc : TypeId × Value → H) :
    ReturnsInHanded {} Try.checked os 13 .any (Rows.bloomKeepsSpec.pre6 enc Try.prog Try.f13 Rows.bloomKeepsRow.domain false) (Rows.bloomKeepsSpec.post enc Try.prog Try.f13 false true false false) := by
  refine returnsInHanded_of_change_sized (C := Try.checked) own started (by kernel_rfl) Try.func13
    (ChangeSpec.witness6 (enc := enc) (C := Try.checked) false ⟨#[], #[.slice none 0 0], []⟩ 8 (by kernel_rfl) (by kernel_rfl) (by kernel_rfl) (by kernel_rfl)) ?_
  intro W base args ds gs before hval0 hW _ hsz0 _
  have hsz : (DataW.weightsEach Try.prog (Try.f13.params.toList ++ Rows.bloomKeepsSpec.plain.varTypes Try.prog) (ds ++ gs)).all (· ≤ reachBytes) = true := hsz0
  clear hsz0
  have hval : ∀ (j : Nat) t v, Try.f13.params[j]? = some t → args[j]? = some v → Value.okWide Try.prog W .any base t v := hval0
  have hW' := hW
  obtain ⟨p, q, hA0, hV, rfl, hfz, hnd⟩ := hW
  have hA : DataW.TrodAll enc Try.prog W 0 (fun _ => true) true Try.f13.params.toList args.toList ds p := hA0
  rw [Try.params13] at hA hval hsz
  obtain ⟨v0, vs0, d0, ds0, p0, q0, hargs, rfl, rfl, h0, r0⟩ := trodAll_cons hA
  obtain ⟨rfl, rfl, rfl⟩ := trodAll_nil r0
  obtain rfl : args = #[v0] := by cases args; simp_all
  obtain ⟨rfl, rfl⟩ := trodVars_none hV
  obtain ⟨x0, len0, cap0, rfl⟩ := okWide_slice Try.underlying30 (hval 0 30 v0 rfl rfl)
  have k0 := h0
  have lt0 : ∀ x ∈ p0, x.block < W.heap.size := by obtain ⟨m, hm⟩ := k0; exact DataW.trod_lt m _ _ _ hm
  obtain ⟨l0, rfl, i0⟩ : ∃ l : List ByteArray, len0 = l.length ∧ StrsAt W x0 l := by
    obtain ⟨fuel, hf⟩ := h0
    obtain ⟨a, l, cap, e, _, hr⟩ := strs_of (show DataW.trod enc Try.prog W 0 (fun _ => true) true fuel 30 [.slice x0 len0 cap0] = some _ from hf) (lo_each hsz (j := 0) rfl rfl)
    cases e
    exact ⟨l, rfl, hr⟩
  clear hA0 hval0
  refine (walk x0 cap0 l0  W i0).mono fun e W' ⟨he, bel⟩ => ?_
  subst he
  exact ⟨_, rfl, _, _, _, [], _, [], hW', trodAll_mk1 (shut_bool Try.underlying4 _), (trodAll_cons_mk (Below.trod laidOut (by kernel_rfl) (of_decide_eq_true (by kernel_rfl)) k0 bel lt0) trodAll_mk0), rfl, bel.frame _, fun h => by cases h⟩

theorem over : Rows.bloomKeepsRow.holds Try.pinned (OpenSpec.ofChange Rows.bloomKeepsSpec) :=
  OpenClaim.holds_of_wide 13 Try.f13 rfl rfl rfl rfl rfl rfl rfl ⟨rfl, rfl, rfl, rfl, rfl⟩ rfl rfl rfl rfl rfl (by kernel_rfl) Try.func13 (by kernel_rfl)
    (of_decide_eq_true (by kernel_rfl)) (by unfold Func.isWrapper; first | (rw [if_pos (by decide +kernel)]; kernel_rfl) | (rw [if_neg (by decide +kernel)]; exact ⟨rfl, rfl⟩))
    (fun os started H enc _ => lifted os started H enc)

end Go.Proofs.Ytbipmeogcmmhhaa.BloomKeeps
namespace Go.Proofs.Ytbipmeogcmmhhaa
theorem bloomKeeps_holds : Rows.BloomKeepsSaid := BloomKeeps.over
#print axioms bloomKeeps_holds
end Go.Proofs.Ytbipmeogcmmhhaa

