/-
  Layer 12: contract of copied.
-/
import Derived.Test.YtabongfoeoideaaDg1
namespace Go.Proofs.Ytabongfoeoideaa
open Go.RowKit Go.Pal
set_option linter.unusedVariables false

set_option maxHeartbeats 1000000 in
set_option maxRecDepth 100000 in
theorem dcopied_any {w : World} {a : Option Addr} {cap : Nat} {M : List ByteArray} (h : StrRow w a M) (hl : M.length ≤ 1000000) (hs : ∀ s ∈ M, s.size ≤ 281474976710656) :
    Calls Try.prog 32 #[.slice a M.length cap] w fun e w' => ∃ v, e = .returned v ∧ w'.ownsRow w.heap.size 9 1 v M.length (M.map Value.string) ∧ Below w.heap.size w w' := by
  have HR := Lib.hid (fun h0 => sRow_some h h0)
  have HLS := Lib.hid hs
  obtain ⟨i0, hi0, hz0, hz1, hz2⟩ := info_parts (show (Try.prog.info? 9).map (fun i => (i.zero, i.size, i.bytes)) = some (some (.string ⟨#[]⟩), 1, 16) by kernel_rfl)
  have I0 := Lib.hid hi0
  have Z0 := Lib.hid hz0
  have Z1 := Lib.hid hz1
  have Z2 := Lib.hid hz2
  clear h hs hi0 hz0 hz1 hz2
  go_enter Try.func32, Try.ntmps32
  go_wp2
  go_loopw [3, 8] (fun v3 j wr => ∃ k : Nat, k ≤ M.length ∧ j = .int .i64 k ∧ wr.ownsRow w.heap.size 9 1 v3 k ((M.take k).map Value.string) ∧ Below w.heap.size w wr) (fun _ j _ => M.length - (intOf j).toNat)
  case atStart => exact ⟨0, Nat.zero_le _, rfl, World.ownsRow_nil _ _ _ _, Below.refl _ _⟩
  case round =>
    obtain ⟨k, hk, rfl, ho, hb⟩ := hrel
    have HO := Lib.hid ho
    have HB := Lib.hid hb
    by_cases hlt : k < M.length
    · obtain ⟨b, off, rfl, hbl, hc⟩ := HR.out (by omega)
      have e0 := (hb.cell (p := ⟨b, off + k, none⟩) hbl).trans (hc k hlt)
      have hss := HLS.out _ (List.getElem_mem hlt)
      have HTK := Lib.hid (show (M.take (k + 1)).map Value.string = (M.take k).map Value.string ++ [.string M[k]] by rw [List.take_succ_eq_append_getElem hlt, List.map_append]; rfl)
      clear hc ho hb
      generalize M[k] = s at *
      have HCL := Lib.hid (fun W => clone_any s W hss)
      have H1 := Lib.hid (show k + 1 ≤ maxLen by unfold maxLen; omega)
      have H2 := Lib.hid (show (k + 1) * 16 ≤ 140737488355328 by omega)
      go_wp2_with (first | (go_at_call 36; refine (HCL.out _).mono ?_; rintro e w4 ⟨rfl, b4⟩; have O4 := Lib.hid (own_kept HO.out (w' := w4) (fun g hg => b4.block g (own_lt HO.out hg).1)); have B4 := Lib.hid (HB.out.trans (b4.mono HB.out.size)); clear b4) | (at_builtin; refine wpList_append_own _ rfl _ _ 30 rfl w.heap.size 9 i0 (.string ⟨#[]⟩) 1 16 Try.underlying30 I0.out Z0.out Z1.out Z2.out rfl (by decide) _ k ((M.take k).map Value.string) rfl (O4.out.alloc _) ⟨w4.heap.size, 0, none⟩ 1 1 [.string s] rfl rfl (one_new w4 9 s) (one_str1 s) H1.out H2.out (by have := B4.out.size; simp; omega) ?_; intro v9 w9 ho9 hg9 _))
      go_roundw
      case rel =>
        refine ⟨k + 1, by omega, by go_num, by rw [HTK.out]; exact ho9, ?_⟩
        exact (B4.out.alloc B4.out.size _).grown hg9 (by have := B4.out.size; simp; omega) (fun j hj => (own_lt O4.out hj).2.1)
      case measure => simp [intOf]; omega
    · obtain rfl : k = M.length := by omega
      rw [List.take_length] at HO
      clear ho hb hlt
      go_wp2
      go_ret
      have hfin := HO.out
      exact ⟨_, rfl, hfin, HB.out⟩
end Go.Proofs.Ytabongfoeoideaa
