/-
  The document's own of layer 12: Heads.
-/
import Derived.Test.YtabongfoeoideaaRg3
import Derived.BigQuiet
namespace Go.Pal
open Go.RowKit
set_option linter.unusedVariables false
def freeE (es : List (ByteArray × List ByteArray)) (x : ByteArray) : Bool := es.all (fun e => !memB e.2 x)
def headG (es : List (ByteArray × List ByteArray)) (k : Nat) : List ByteArray := ((es.take k).map Prod.fst).filter (freeE es)
theorem head_take (es : List (ByteArray × List ByteArray)) {k : Nat} (hk : k < es.length) : headG es (k + 1) = if freeE es es[k].1 then headG es k ++ [es[k].1] else headG es k := by
  unfold headG
  rw [List.take_succ_eq_append_getElem hk, List.map_append, List.filter_append]
  cases h : freeE es es[k].1 <;> simp [h]
theorem headG_len (es : List (ByteArray × List ByteArray)) (k : Nat) : (headG es k).length ≤ es.length := by
  unfold headG
  refine Nat.le_trans (List.length_filter_le _ _) ?_
  simp; omega
theorem look_self {es : List (ByteArray × List ByteArray)} (hn : (es.map Prod.fst).Nodup) {e : ByteArray × List ByteArray} (he : e ∈ es) : parE es e.1 = e.2 := by
  unfold parE; rw [look_mem hn he]
theorem head_eq {es : List (ByteArray × List ByteArray)} (hn : (es.map Prod.fst).Nodup) : riseL (headG es es.length) = headsL es := by
  unfold headG headsL headE
  rw [List.take_length]
  congr 1
  refine List.filter_congr fun x _ => ?_
  unfold freeE
  rw [Bool.eq_iff_iff, List.all_eq_true, List.all_eq_true]
  constructor
  · intro h e he; rw [look_self hn he]; exact h e he
  · intro h e he; have := h e he; rwa [look_self hn he] at this
end Go.Pal
namespace Go.Proofs.Ytabongfoeoideaa
open Go.RowKit Go.Pal Go.Shelf
set_option linter.unusedVariables false
set_option maxHeartbeats 2000000 in
set_option maxRecDepth 100000 in
theorem rheads_any {w : World} {a : Option Addr} {cap : Nat} {l : List En} (h : EnsAt w a l) (hl : l.length ≤ 1000) (hn : ((esEn l).map Prod.fst).Nodup) :
    Calls Try.prog 24 #[.slice a l.length cap] w fun e w' => ∃ v, e = .returned v ∧ OwnL w' w.heap.size v (headsL (esEn l)) ∧ Below w.heap.size w w' := by
  obtain ⟨i0, hi0, hz0, hz1, hz2⟩ := info_parts (show (Try.prog.info? 9).map (fun i => (i.zero, i.size, i.bytes)) = some (some (.string ⟨#[]⟩), 1, 16) by kernel_rfl)
  have I0 := Lib.hid hi0
  have Z0 := Lib.hid hz0
  have Z1 := Lib.hid hz1
  have Z2 := Lib.hid hz2
  have HC := Lib.hid (fun k (hk : k < l.length) => cells_en (k := k) h hk)
  have HHA := Lib.hid (fun k (hk : k < l.length) s W (hW : Below w.heap.size w W) => rhas_any (cap := l[k].cap) ((h.ok _ (List.getElem_mem hk)).par.row.below hW) (h.ok _ (List.getElem_mem hk)).par.len s)
  have HPL := Lib.hid (fun k (hk : k < l.length) => (h.ok _ (List.getElem_mem hk)).par.len)
  have HEND := Lib.hid (show riseL (headG (esEn l) l.length) = headsL (esEn l) by rw [← esEn_len l]; exact head_eq hn)
  have HTK := Lib.hid (fun k (hk : k < l.length) => show headG (esEn l) (k + 1) = if freeE (esEn l) l[k].id then headG (esEn l) k ++ [l[k].id] else headG (esEn l) k from by
    have := head_take (esEn l) (k := k) (by rw [esEn_len]; exact hk)
    rw [esEn_get l k hk] at this; exact this)
  have HAT := Lib.hid (fun k (hk : k < l.length) x => show ((esEn l).take (k + 1)).all (fun e => !memB e.2 x) = (((esEn l).take k).all (fun e => !memB e.2 x) && !memB l[k].par x) from by
    rw [List.take_succ_eq_append_getElem (by rw [esEn_len]; exact hk), List.all_append, esEn_get l k hk]; simp [entOf])
  have HAL := Lib.hid (fun x => show ((esEn l).take l.length).all (fun e => !memB e.2 x) = freeE (esEn l) x from by rw [← esEn_len l, List.take_length]; rfl)
  have HLEN := Lib.hid (fun k => show (headG (esEn l) k).length ≤ 1000 from Nat.le_trans (headG_len _ _) (by rw [esEn_len]; exact hl))
  clear h hn hi0 hz0 hz1 hz2
  generalize esEn l = es at *
  go_enter Try.func24, Try.ntmps24
  go_wp2
  go_loopw [3, 4] (fun v3 j wr => ∃ k : Nat, k ≤ l.length ∧ j = .int .i64 k ∧ OwnL wr w.heap.size v3 (headG es k) ∧ Below w.heap.size w wr) (fun _ j _ => l.length - (intOf j).toNat)
  case atStart => exact ⟨0, Nat.zero_le _, rfl, World.ownsRow_nil _ _ _ _, Below.refl _ _⟩
  case round =>
    obtain ⟨k, hk, rfl, ho, hb⟩ := hrel
    obtain ⟨p3, c3, rfl, hr3⟩ := ho.form
    have HO := Lib.hid ho
    have HB := Lib.hid hb
    by_cases hlt : k < l.length
    · obtain ⟨b, off, rfl, hbl, ck0, _⟩ := HC.out k hlt
      have HTKK := Lib.hid (HTK.out k hlt)
      obtain ⟨x, hx⟩ : ∃ x, x = l[k].id := ⟨_, rfl⟩
      rw [← hx] at ck0 HTKK
      have HCK := Lib.hid ck0
      clear hx ho hb ck0 hr3
      have k1 : (k : Int) < (l.length : Int) := by omega
      have k0 : (0 : Int) ≤ (k : Int) := by omega
      go_wp2
      rename World => wi0
      go_loopw [5, 6] (fun v5 j wi => ∃ i : Nat, i ≤ l.length ∧ j = .int .i64 i ∧ v5 = .bool ((es.take i).all (fun e => !memB e.2 x)) ∧ OwnL wi w.heap.size (.slice p3 (headG es k).length c3) (headG es k) ∧ Below w.heap.size w wi) (fun _ j _ => l.length - (intOf j).toNat)
      case atStart => exact ⟨0, Nat.zero_le _, rfl, rfl, HO.out, HB.out⟩
      case round =>
        obtain ⟨i, hi, rfl, rfl, ho2, hb2⟩ := hrel
        have HO2 := Lib.hid ho2
        have HB2 := Lib.hid hb2
        by_cases hil : i < l.length
        · obtain ⟨b', off', e9, _, _, ci1⟩ := HC.out i hil
          obtain ⟨rfl, rfl⟩ : b' = b ∧ off' = off := by cases e9; exact ⟨rfl, rfl⟩
          have ci := (hb2.cell (p := ⟨b', off' + i * 2 + 1, none⟩) hbl).trans ci1
          have ck := (hb2.cell (p := ⟨b', off' + k * 2, none⟩) hbl).trans HCK.out
          have HH := Lib.hid (fun n => HHA.out i hil x (wr.drewN n) (below_drewN hb2 n))
          have HA := Lib.hid (HAT.out i hil x)
          have i1 : (i : Int) < (l.length : Int) := by omega
          have i00 : (0 : Int) ≤ (i : Int) := by omega
          clear ho2 hb2 e9 ci1
          generalize l[i].par = M at *
          generalize l[i].at_ = xat at *
          generalize l[i].cap = xcap at *
          generalize hq : (es.take i).all (fun e => !memB e.2 x) = q at *
          clear hq
          generalize memB M x = r at *
          cases q with
          | true =>
            go_wp2
            go_quiet ((go_at_call 28; exact Calls.quiet_of_same (HH.out _)))
            go_wp2
            go_roundw
            case rel => exact ⟨i + 1, by omega, by go_num, by rw [HA.out]; cases r <;> rfl, HO2.out, below_drewN HB2.out _⟩
            case measure => simp [intOf]; omega
          | false =>
            go_wp2
            go_quiet (fail)
            go_wp2
            go_roundw
            case rel => exact ⟨i + 1, by omega, by go_num, by rw [HA.out]; rfl, HO2.out, below_drewN HB2.out _⟩
            case measure => simp [intOf]; omega
        · obtain rfl : i = l.length := by omega
          rw [HAL.out]
          have hws := hb2.size
          have ck := (hb2.cell (p := ⟨b, off + k * 2, none⟩) hbl).trans HCK.out
          have hln := HLEN.out k
          have H1 := Lib.hid (show (headG es k).length + 1 ≤ maxLen by unfold maxLen; omega)
          have H2 := Lib.hid (show ((headG es k).length + 1) * 16 ≤ 140737488355328 by omega)
          clear ho2 hb2
          generalize hf : freeE es x = f at *
          clear hf
          generalize headG es k = out at *
          cases f with
          | true =>
            go_wp2_with (at_builtin; refine wpList_append_own _ rfl _ _ 30 rfl w.heap.size 9 i0 (.string ⟨#[]⟩) 1 16 Try.underlying30 I0.out Z0.out Z1.out Z2.out rfl (by decide) _ out.length (out.map Value.string) rfl (HO2.out.alloc _) ⟨wr.heap.size, 0, none⟩ 1 1 [.string x] rfl rfl (one_new wr 9 x) (one_str1 x) H1.out H2.out (by simp; omega) ?_; intro v9 w9 ho9 hg9 _; have O9 := Lib.hid (show OwnL w9 w.heap.size v9 (out ++ [x]) by unfold OwnL; simpa using ho9); have B9 := Lib.hid (HB2.out.grown ((World.grownBy_alloc wr _ _).trans hg9) hws (fun j hj => (own_lt HO2.out hj).2.1)); clear ho9 hg9)
            go_roundw
            case rel => exact ⟨k + 1, by omega, by go_num, by rw [HTKK.out]; exact O9.out, B9.out⟩
            case measure => simp [intOf]; omega
          | false =>
            go_wp2
            go_roundw
            case rel => exact ⟨k + 1, by omega, by go_num, by rw [HTKK.out]; exact HO2.out, HB2.out⟩
            case measure => simp [intOf]; omega
    · obtain rfl : k = l.length := by omega
      have HS := Lib.hid (rsorted_any (cap := c3) hr3 (by have := HLEN.out l.length; omega))
      clear ho hb hr3
      go_wp2_with (go_at_call 31; refine HS.out.mono ?_; rintro e w9 ⟨v9, rfl, o9, b9⟩; obtain ⟨p9, c9, rfl, _⟩ := rowS_form o9; have O9 := Lib.hid o9; have B9 := Lib.hid b9; clear o9 b9)
      go_ret
      rw [← HEND.out]
      exact ⟨_, rfl, own_base O9.out HB.out.size, HB.out.trans (B9.out.mono HB.out.size)⟩
end Go.Proofs.Ytabongfoeoideaa
