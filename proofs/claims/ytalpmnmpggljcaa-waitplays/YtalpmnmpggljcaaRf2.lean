/-
  The law's without.
-/
import Derived.Test.YtalpmnmpggljcaaRf1
namespace Go.Proofs.Ytalpmnmpggljcaa
open Go.RowKit Go.Pal Go.Pal.Dk Go.Sort
set_option linter.unusedVariables false

theorem strike_take (l : List ByteArray) (k : Nat) (hk : k < l.length) (s : ByteArray) : strike (l.take (k + 1)) s = strike (l.take k) s ++ if l[k] = s then [] else [l[k]] := by
  unfold strike
  rw [List.take_succ_eq_append_getElem hk, List.filter_append]
  congr 1
  by_cases h : l[k] = s
  · simp [h]
  · simp [h]
set_option maxHeartbeats 1000000 in
set_option maxRecDepth 100000 in
theorem rwithout_any {w : World} {a : Option Addr} {cap : Nat} {l : List ByteArray} (h : StrRow w a l) (hl : l.length ≤ 1000000) (s : ByteArray) :
    Calls Try.prog 41 #[.slice a l.length cap, .string s] w fun e w' => ∃ v, e = .returned v ∧ w'.ownsRow w.heap.size 9 1 v (strike l s).length ((strike l s).map Value.string) ∧ Below w.heap.size w w' := by
  have HR := Lib.hid (fun h0 => sRow_some h h0)
  obtain ⟨i0, hi0, hz0, hz1, hz2⟩ := info_parts (show (Try.prog.info? 9).map (fun i => (i.zero, i.size, i.bytes)) = some (some (.string ⟨#[]⟩), 1, 16) by kernel_rfl)
  have I0 := Lib.hid hi0
  have Z0 := Lib.hid hz0
  have Z1 := Lib.hid hz1
  have Z2 := Lib.hid hz2
  have HT := Lib.hid (fun k hk => strike_take l k hk s)
  have HLE := Lib.hid (fun k => show (strike (l.take k) s).length ≤ k from Nat.le_trans (List.length_filter_le _ _) (List.length_take_le _ _))
  clear h hi0 hz0 hz1 hz2
  go_enter Try.func41, Try.ntmps41
  go_wp2
  go_loopw [5, 6] (fun v5 j wr => ∃ k : Nat, k ≤ l.length ∧ j = .int .i64 k ∧ wr.ownsRow w.heap.size 9 1 v5 (strike (l.take k) s).length ((strike (l.take k) s).map Value.string) ∧ Below w.heap.size w wr) (fun _ j _ => l.length - (intOf j).toNat)
  case atStart => exact ⟨0, Nat.zero_le _, rfl, World.ownsRow_nil _ _ _ _, Below.refl _ _⟩
  case round =>
    obtain ⟨k, hk, rfl, ho, hb⟩ := hrel
    have HO := Lib.hid ho
    have HB := Lib.hid hb
    by_cases hlt : k < l.length
    · obtain ⟨b, off, rfl, hbl, hc⟩ := HR.out (by omega)
      have ck := (hb.cell (p := ⟨b, off + k, none⟩) hbl).trans (hc k hlt)
      have HTK := Lib.hid (HT.out k hlt)
      have hle := HLE.out k
      clear hc ho hb
      generalize l[k] = x at *
      generalize strike (l.take k) s = out at *
      by_cases he : x = s
      · subst he
        have heq := beqWT (a := x)
        have HN := Lib.hid (show strike (l.take (k + 1)) x = out by rw [HTK.out, if_pos rfl, List.append_nil])
        go_wp2
        go_roundw
        case rel => exact ⟨k + 1, by omega, by go_num, by rw [HN.out]; exact HO.out, HB.out⟩
        case measure => simp [intOf]; omega
      · have heq := beqWF he
        have HN := Lib.hid (show strike (l.take (k + 1)) s = out ++ [x] by rw [HTK.out, if_neg he])
        have H1 := Lib.hid (show out.length + 1 ≤ maxLen by unfold maxLen; omega)
        have H2 := Lib.hid (show (out.length + 1) * 16 ≤ 140737488355328 by omega)
        clear he
        go_wp2_with (at_builtin; refine wpList_append_own _ rfl _ _ 30 rfl w.heap.size 9 i0 (.string ⟨#[]⟩) 1 16 Try.underlying30 I0.out Z0.out Z1.out Z2.out rfl (by decide) _ out.length (out.map Value.string) rfl (HO.out.alloc _) ⟨wr.heap.size, 0, none⟩ 1 1 [.string x] rfl rfl (one_new wr 9 x) (one_str1 _) H1.out H2.out (by have := HB.out.size; simp; omega) ?_; intro v9 w9 ho9 hg9 _; have HB9 := Lib.hid ((HB.out.alloc HB.out.size (.cells #[.string x] 9)).grown hg9 (by have := HB.out.size; simp; omega) (fun j hj => (own_lt HO.out hj).2.1)); have HO9 := Lib.hid ho9; clear ho9 hg9)
        go_roundw
        case rel => exact ⟨k + 1, by omega, by go_num, by rw [HN.out, List.map_append, List.length_append]; exact HO9.out, HB9.out⟩
        case measure => simp [intOf]; omega
    · obtain rfl : k = l.length := by omega
      rw [List.take_length] at ho
      have HF := Lib.hid ho
      clear ho hb
      go_wp2
      go_ret
      have hf := HF.out
      exact ⟨_, rfl, hf, HB.out⟩
end Go.Proofs.Ytalpmnmpggljcaa
