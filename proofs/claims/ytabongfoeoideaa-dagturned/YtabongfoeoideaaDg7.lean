/-
  Layer 12: past, Past, Ahead.
-/
import Derived.Test.YtabongfoeoideaaSrtS
import Derived.Test.YtabongfoeoideaaDg6
namespace Go.Pal
open Go.RowKit
def pastL (es : List (ByteArray × List ByteArray)) (id : ByteArray) : List ByteArray := gatherL es es.length [] id
theorem past_good {es : List (ByteArray × List ByteArray)} (hok : DagOk es) (id : ByteArray) : GoodL es (pastL es id) := gather_good hok _ id [] ⟨List.nodup_nil, fun x hx => by cases hx⟩
theorem rankE_lt {es : List (ByteArray × List ByteArray)} {s : ByteArray} (h : (lookE es s).isSome = true) : rankE es s < es.length := by
  obtain ⟨e, he, hs⟩ := List.mem_map.1 (lookE_isSome.1 h)
  exact List.findIdx_lt_length_of_exists ⟨e, he, by simpa using hs⟩
theorem past_size {es : List (ByteArray × List ByteArray)} (hok : DagOk es) {id x : ByteArray} (h : x ∈ pastL es id) : x.size ≤ 64 := by
  obtain ⟨e, he, rfl⟩ := List.mem_map.1 (lookE_isSome.1 ((past_good hok id).2 x h))
  exact hok.size e he
end Go.Pal
namespace Go.Proofs.Ytabongfoeoideaa
open Go.RowKit Go.Pal Go.Shelf
set_option linter.unusedVariables false

set_option maxHeartbeats 1000000 in
theorem dpastset_at {w : World} {base : Nat} {p : Option Addr} {m : Option Nat} {mv : ByteArray → Value} {es : List (ByteArray × List ByteArray)} (h : DagP w base p m mv es) (hok : DagOk es) {id : ByteArray} (hid : id.size ≤ maxLen) :
    Calls Try.prog 39 #[.pointer p, .string id] w fun e w' => e = .returned (.map (some w.heap.size)) ∧ MapF Try.prog 9 w' w.heap.size (pastL es id).length (setL (pastL es id)) ∧ Below w.heap.size w w' := by
  have HC := Lib.hid (dgather_any (B := w.heap.size) hok (fun g hg e => absurd (h.lt hg) (by omega)) es.length id hid rankE_lt (w.alloc (.map #[] 0)) [] (h.below (n := w.heap.size) ((Below.refl _ _).alloc (Nat.le_refl _) _) (Nat.le_refl _)) ((MapF.made w Try.prog 9).same (fun s => rfl)) ⟨List.nodup_nil, fun x hx => by cases hx⟩)
  have hmm := @run_makeMap Try.prog
  clear h hok hid
  go_enter Try.func39, Try.ntmps39
  go_wp2_with (go_at_call 48; refine HC.out.mono ?_; rintro e w1 ⟨rfl, hm1, ho1⟩; have HM1 := Lib.hid hm1; have HO1 := Lib.hid ho1; clear hm1 ho1)
  go_ret
  exact ⟨rfl, HM1.out, ((Off.refl (fun g => g = w.heap.size) w).alloc _ |>.trans HO1.out (fun g _ h2 => h2)).below (fun g hg => by omega) (Nat.le_refl _)⟩
set_option maxHeartbeats 1000000 in
theorem dahead_at {w : World} {base : Nat} {p : Option Addr} {m : Option Nat} {mv : ByteArray → Value} {es : List (ByteArray × List ByteArray)} (h : DagP w base p m mv es) (hok : DagOk es) {a b : ByteArray} (ha : a.size ≤ maxLen) (hb : b.size ≤ maxLen) :
    Calls Try.prog 27 #[.pointer p, .string a, .string b] w fun e w' => e = .returned (.bool (memB (pastL es b) a)) ∧ Below w.heap.size w w' := by
  have HC := Lib.hid (dpastset_at h hok hb)
  have HA := Lib.hid ha
  clear h hok hb ha
  go_enter Try.func27, Try.ntmps27
  go_wp2_with (go_at_call 39; refine HC.out.mono ?_; rintro e w1 ⟨rfl, hm1, hb1⟩; have hlo := hm1.look_ok Try.underlying9 Try.underlying66 (zeroU w1) HA.out; rw [setL_get, setL_some] at hlo; unfold unitV at hlo; have HB1 := Lib.hid hb1; clear hm1 hb1)
  go_ret
  exact ⟨rfl, HB1.out.alloc HB1.out.size _⟩
set_option maxHeartbeats 1000000 in
theorem dpast_at {w : World} {base : Nat} {p : Option Addr} {m : Option Nat} {mv : ByteArray → Value} {es : List (ByteArray × List ByteArray)} (h : DagP w base p m mv es) (hok : DagOk es) {id : ByteArray} (hid : id.size ≤ maxLen) :
    Calls Try.prog 21 #[.pointer p, .string id] w fun e w' => ∃ v, e = .returned v ∧ w'.ownsRow w.heap.size 9 1 v (riseL (pastL es id)).length ((riseL (pastL es id)).map Value.string) ∧ Below w.heap.size w w' := by
  have HC := Lib.hid (dpastset_at h hok hid)
  have hg := past_good hok id
  have hlen : (pastL es id).length ≤ 300 := Nat.le_trans hg.len hok.len
  have HSC := Lib.hid (fun W (hm : MapF Try.prog 9 W w.heap.size (pastL es id).length (setL (pastL es id))) => sorted_call hm (rise_rising _) (fun s => by rw [mem_rise, setL_some, memB_iff]) (by omega))
  have HCP := Lib.hid (fun W base' v (ho : (W : World).ownsRow base' 9 1 v (riseL (pastL es id)).length ((riseL (pastL es id)).map Value.string)) => dcopied_own ho (Nat.le_trans (rise_le _) (by omega)) (fun s hs => by have := past_size hok ((mem_rise _ s).1 hs); omega))
  clear h hok hid hg hlen
  go_enter Try.func21, Try.ntmps21
  go_wp2_with (first
    | (go_at_call 32; refine (HCP.out w3 _ v3 O3).mono ?_; rintro r w4 ⟨v4, rfl, O4, b4⟩; have HO4 := Lib.hid O4; have HB4 := Lib.hid b4; clear O4 b4)
    | (go_at_call 34; refine (HSC.out w1 HM1.out).mono ?_; rintro r w3 ⟨v3, rfl, O3, b3⟩; have HB3 := Lib.hid b3; clear b3)
    | (go_at_call 38; refine (keys_call _ _).mono ?_; rintro e w' ⟨rfl, rfl⟩)
    | (go_at_call 39; refine HC.out.mono ?_; rintro e w1 ⟨rfl, hm1, hb1⟩; have HM1 := Lib.hid hm1; have HB1 := Lib.hid hb1; clear hm1 hb1))
  go_ret
  have hs1 := HB1.out.size
  have hs3 : w1.heap.size + 1 ≤ w3.heap.size := by have := HB3.out.size; simpa using this
  exact ⟨_, rfl, own_base HO4.out (by omega), ((HB1.out.alloc hs1 _).trans (HB3.out.mono (by omega))).trans (HB4.out.mono (by omega))⟩
end Go.Proofs.Ytabongfoeoideaa
