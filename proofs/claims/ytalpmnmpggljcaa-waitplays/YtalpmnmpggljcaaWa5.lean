/-
  Contracts of package wait: Missing.
-/
import Derived.Test.YtalpmnmpggljcaaWa4
import Derived.Test.YtalpmnmpggljcaaSrtS
namespace Go.Pal
open Go.RowKit
def missW (ws : List Wt) : List ByteArray := riseL ((ws.flatMap Wt.miss).filter (fun s => !ws.any (fun x => decide (x.id = s))))
theorem mem_missW {ws : List Wt} {s : ByteArray} : s ∈ missW ws ↔ (∃ x ∈ ws, s ∈ x.miss) ∧ ∀ x ∈ ws, x.id ≠ s := by
  unfold missW; rw [mem_rise]; simp
end Go.Pal
namespace Go.Proofs.Ytalpmnmpggljcaa
open Go.RowKit Go.Pal Go.Pal.Dk
set_option linter.unusedVariables false

theorem take_mem {ws : List Wt} {k : Nat} (hk : k < ws.length) {p : Wt → Prop} : (∃ x ∈ ws.take (k + 1), p x) ↔ (∃ x ∈ ws.take k, p x) ∨ p ws[k] := by
  rw [List.take_succ_eq_append_getElem hk]
  constructor
  · rintro ⟨x, hx, h⟩
    rcases List.mem_append.1 hx with h1 | h1
    · exact .inl ⟨x, h1, h⟩
    · rw [List.mem_singleton.1 h1] at h; exact .inr h
  · rintro (⟨x, hx, h⟩ | h)
    · exact ⟨x, List.mem_append_left _ hx, h⟩
    · exact ⟨_, List.mem_append_right _ (List.mem_singleton.2 rfl), h⟩
theorem one_str1 (s : ByteArray) : ∀ u ∈ [Value.string s], u.oneCell' = true := by intro u hu; rw [List.mem_singleton.1 hu]; rfl
theorem rowS_weak {w : World} {b b' n size : Nat} {t : TypeId} {v : Value} {l : List Value} (h : w.ownsRow b t size v n l) (hb : b' ≤ b) : w.ownsRow b' t size v n l := by
  refine ⟨h.1, ?_⟩
  rcases h.2 with h2 | ⟨g, cap, cur, e, h3, r⟩
  · exact .inl h2
  · exact .inr ⟨g, cap, cur, e, Nat.le_trans hb h3, r⟩
theorem take_all {ws : List Wt} {k : Nat} (hk : k < ws.length) {p : Wt → Prop} : (∀ x ∈ ws.take (k + 1), p x) ↔ (∀ x ∈ ws.take k, p x) ∧ p ws[k] := by
  rw [List.take_succ_eq_append_getElem hk]
  constructor
  · intro h
    exact ⟨fun x hx => h x (List.mem_append_left _ hx), h _ (List.mem_append_right _ (List.mem_singleton.2 rfl))⟩
  · rintro ⟨h1, h2⟩ x hx
    rcases List.mem_append.1 hx with h | h
    · exact h1 x h
    · rw [List.mem_singleton.1 h]; exact h2
set_option maxHeartbeats 2000000 in
set_option maxRecDepth 100000 in
theorem wmissing_any {w : World} {base : Nat} {pv v : Value} {ws : List Wt} (hall : ∀ w', Below w.heap.size w w' → Calls Try.prog 61 #[pv] w' fun e w'' => e = .returned v ∧ w'' = w')
    (hrow : w.ownsRow base 100 3 v ws.length (cellsW ws)) (hmaps : ∀ x ∈ ws, MapF Try.prog 9 w x.mb x.miss.length (setL x.miss) ∧ x.miss.Nodup) (hl : ws.length ≤ 300) (hml : ∀ x ∈ ws, x.miss.length ≤ 1000000)
    (hid : ∀ x ∈ ws, x.id.size ≤ maxLen) (hms : ∀ x ∈ ws, ∀ s ∈ x.miss, s.size ≤ 281474976710656) :
    Calls Try.prog 45 #[pv] w fun e w' => ∃ v', e = .returned v' ∧ w'.ownsRow w.heap.size 9 1 v' (missW ws).length ((missW ws).map Value.string) ∧ Below w.heap.size w w' := by
  have HALL := Lib.hid hall
  have HROW := Lib.hid hrow
  have HMAPS := Lib.hid hmaps
  have HML := Lib.hid hml
  have HID := Lib.hid hid
  have HMS := Lib.hid hms
  obtain ⟨p, vc, rfl, hvc, hvm, hvp⟩ := rowS_form hrow
  have HVP := Lib.hid hvp
  have hmm := @run_makeMap Try.prog
  have HB0 := Lib.hid (show Below w.heap.size w (w.alloc (.map #[] 0)) from (Below.refl _ _).alloc (Nat.le_refl _) _)
  have HM0 := Lib.hid (MapF.made w Try.prog 9)
  clear hall hrow hmaps hml hid hms hvp
  go_enter Try.func45, Try.ntmps45
  go_wp2_with (go_at_call 61; refine (HALL.out _ HB0.out).mono ?_; rintro e w1 ⟨rfl, rfl⟩)
  go_loopw [15] (fun j wr => ∃ (k : Nat) (L : List ByteArray), k ≤ ws.length ∧ j = .int .i64 k ∧ L.Nodup ∧ MapF Try.prog 9 wr w.heap.size L.length (setL L) ∧ (∀ s, s ∈ L ↔ ∃ x ∈ ws.take k, s ∈ x.miss) ∧ L.length ≤ k * 1000000 ∧ Below w.heap.size w wr) (fun j _ => ws.length - (intOf j).toNat)
  case atStart => exact ⟨0, [], Nat.zero_le _, rfl, List.nodup_nil, HM0.out.same (fun s => rfl), fun s => by simp, by simp, HB0.out⟩
  case round =>
    obtain ⟨k, L, hk, rfl, hln, hm, hmem, hll, hb⟩ := hrel
    have HB := Lib.hid hb
    have HM := Lib.hid hm
    have HMEM := Lib.hid hmem
    clear hmm hmem hm
    by_cases hlt : k < ws.length
    · obtain ⟨g, rfl⟩ := HVP.out (by omega)
      have hgl := (own_lt HROW.out (g := g) rfl).1
      obtain ⟨d0, d1, d2⟩ := rowW_cells HROW.out k hlt
      have e0 := (hb.cell (p := ⟨g, k * 3, none⟩) hgl).trans d0
      have e1 := (hb.cell (p := ⟨g, k * 3 + 1, none⟩) hgl).trans d1
      have e2 := (hb.cell (p := ⟨g, k * 3 + 2, none⟩) hgl).trans d2
      have hmk := (HMAPS.out _ (List.getElem_mem hlt))
      have hmkl := HML.out _ (List.getElem_mem hlt)
      have hlt2 := hmk.1.lt
      have hsz := hb.size
      have HCP := Lib.hid (show ∀ o, Calls Try.prog 62 #[.map (some w.heap.size), .map (some ws[k].mb)] (wr.alloc o) _ from fun o => mcopy_any (HM.out.keep (heap_alloc_old _ _ HM.out.lt)) ((hmk.1.keep (hb.block _ hlt2)).keep (heap_alloc_old _ _ (by omega))) (by omega) hln hmk.2 (by omega))
      have HTM := Lib.hid (fun s => take_mem (ws := ws) hlt (p := fun x => s ∈ x.miss))
      clear d0 d1 d2 hb hmk
      generalize ws[k].id = xid at *
      generalize ws[k].text = xtx at *
      generalize ws[k].mb = xmb at *
      generalize ws[k].miss = xms at *
      go_wp2_with (go_at_call 62; refine (HCP.out _).mono ?_; rintro e w2 ⟨⟨v2, rfl⟩, L2, hln2, hmem2, hm2, ho2, hll2⟩)
      go_roundw
      case rel =>
        refine ⟨k + 1, L2, by omega, by go_num, hln2, hm2, fun s => ?_, by omega, ?_⟩
        · rw [hmem2, HTM.out, HMEM.out]
        · exact (HB.out.alloc HB.out.size _).trans ((ho2.below (n := w.heap.size) (fun g hg => by omega) (by simp; omega)).mono (Nat.le_refl _))
      case measure => simp [intOf]; omega
    · obtain rfl : k = ws.length := by omega
      rw [List.take_length] at HMEM
      clear hlt hb
      go_wp2_with (go_at_call 61; refine (HALL.out _ HB.out).mono ?_; rintro e w1 ⟨rfl, rfl⟩)
      have hlb : L.length ≤ 300000000 := by have := Nat.mul_le_mul_right 1000000 hl; omega
      have HU := Lib.hid (show ∀ s, s ∈ L → s.size ≤ 281474976710656 from fun s hs => by obtain ⟨x, hx, h⟩ := (HMEM.out s).1 hs; exact HMS.out x hx s h)
      go_loopw [27] (fun j wr => ∃ (k : Nat) (K : List ByteArray), k ≤ ws.length ∧ j = .int .i64 k ∧ K.Nodup ∧ MapF Try.prog 9 wr w.heap.size K.length (setL K) ∧ (∀ s, s ∈ K ↔ s ∈ L ∧ ∀ x ∈ ws.take k, x.id ≠ s) ∧ K.length ≤ 300000000 ∧ Below w.heap.size w wr) (fun j _ => ws.length - (intOf j).toNat)
      case atStart => exact ⟨0, L, Nat.zero_le _, rfl, hln, HM.out, fun s => by simp, hlb, HB.out⟩
      case round =>
        obtain ⟨k, K, hk, rfl, hkn, hm, hkm, hkl, hb⟩ := hrel
        have HB := Lib.hid hb
        have HM := Lib.hid hm
        have HKM := Lib.hid hkm
        clear hkm hm
        by_cases hlt : k < ws.length
        · obtain ⟨g, rfl⟩ := HVP.out (by omega)
          have hgl := (own_lt HROW.out (g := g) rfl).1
          obtain ⟨d0, d1, d2⟩ := rowW_cells HROW.out k hlt
          have e0 := (hb.cell (p := ⟨g, k * 3, none⟩) hgl).trans d0
          have e1 := (hb.cell (p := ⟨g, k * 3 + 1, none⟩) hgl).trans d1
          have e2 := (hb.cell (p := ⟨g, k * 3 + 2, none⟩) hgl).trans d2
          have hids := HID.out _ (List.getElem_mem hlt)
          have HTM := Lib.hid (fun s => take_all (ws := ws) hlt (p := fun x => x.id ≠ s))
          clear d0 d1 d2 hb
          generalize ws[k].id = xid at *
          generalize ws[k].text = xtx at *
          generalize ws[k].mb = xmb at *
          have hml := HM.out.lt
          go_wp2_with (at_delete; refine wpList_delete_F _ rfl _ _ 86 9 rfl 87 Try.underlying9 Try.underlying86 w.heap.size K.length (setL K) rfl (HM.out.keep (heap_alloc_old _ _ hml)) xid hids rfl ?_; intro w2 hm2 ht2; have hm3 := MapF.strike hkn hm2; have G2 := Lib.hid ht2.grown; clear hm2 ht2)
          go_roundw
          case rel =>
            refine ⟨k + 1, strike K xid, by omega, by go_num, strike_nodup hkn xid, hm3, fun s => ?_, ?_, ?_⟩
            · rw [mem_strike, HTM.out, HKM.out]
              exact ⟨fun h => ⟨h.1.1, h.1.2, fun e => h.2 e.symm⟩, fun h => ⟨⟨h.1, h.2.1⟩, fun e => h.2.2 e.symm⟩⟩
            · have : (strike K xid).length ≤ K.length := List.length_filter_le _ _
              omega
            · have hs1 := HB.out.size
              have hs2 := G2.out.size
              simp at hs2
              exact ⟨G2.out.os.trans HB.out.os, G2.out.tape.trans HB.out.tape, G2.out.output.trans HB.out.output, by omega, fun g2 hg => ((G2.out.block g2 (by simp; omega) (by simp; omega)).trans (heap_alloc_old _ _ (by omega))).trans (HB.out.block g2 hg)⟩
          case measure => simp [intOf]; omega
        · obtain rfl : k = ws.length := by omega
          rw [List.take_length] at HKM
          clear hlt hb
          have HLM := Lib.hid (show ∀ s, s ∈ missW ws ↔ (setL K s).isSome = true from fun s => by rw [setL_some, memB_iff, mem_missW, HKM.out, HMEM.out])
          have HLS := Lib.hid (show ∀ s ∈ missW ws, s.size ≤ 281474976710656 from fun s hs => by obtain ⟨x, hx, h⟩ := (mem_missW.1 hs).1; exact HMS.out x hx s h)
          have HRI := Lib.hid (show Rising (missW ws) from rise_rising _)
          have HSC := Lib.hid (sorted_call HM.out HRI.out HLM.out (by omega))
          obtain ⟨M, hMW⟩ : ∃ M, M = missW ws := ⟨_, rfl⟩
          rw [← hMW] at HLM HLS HRI HSC
          have HMW := Lib.hid hMW
          clear hMW
          go_wp2_with (first | (go_at_call 53; refine (keys_call _ _).mono ?_; rintro e w' ⟨rfl, rfl⟩) | (go_at_call 49; refine HSC.out.mono ?_; rintro e w3 ⟨v3, rfl, ho3, hb3⟩; obtain ⟨p3, c3, rfl, h31, h32, hp3⟩ := rowS_form ho3; have HO3 := Lib.hid ho3; have HP3 := Lib.hid hp3; have HB3 := Lib.hid hb3; clear ho3 hp3 hb3))
          have HBW := Lib.hid (show Below w.heap.size w w3 from (HB.out.alloc HB.out.size _).trans (HB3.out.mono (by have := HB.out.size; omega)))
          have hw3 : wr.heap.size + 1 ≤ w3.heap.size := by have := HB3.out.size; simpa using this
          have hMl : M.length ≤ 300000000 := by
            have e := nodup_length HRI.out.nodup hkn (fun s => by rw [HLM.out, setL_some, memB_iff])
            omega
          obtain ⟨i0, hi0, hz0, hz1, hz2⟩ := info_parts (show (Try.prog.info? 9).map (fun i => (i.zero, i.size, i.bytes)) = some (some (.string ⟨#[]⟩), 1, 16) by kernel_rfl)
          have I0 := Lib.hid hi0
          have Z0 := Lib.hid hz0
          have Z1 := Lib.hid hz1
          have Z2 := Lib.hid hz2
          clear hi0 hz0 hz1 hz2 HM HKM HB HB3 HSC HLM HMEM HU HROW HMAPS HML HID HALL
          go_loopw [8, 40] (fun v8 j wr => ∃ k : Nat, k ≤ M.length ∧ j = .int .i64 k ∧ wr.ownsRow w3.heap.size 9 1 v8 k ((M.take k).map Value.string) ∧ Below w3.heap.size w3 wr) (fun _ j _ => M.length - (intOf j).toNat)
          case atStart => exact ⟨0, Nat.zero_le _, rfl, World.ownsRow_nil _ _ _ _, Below.refl _ _⟩
          case round =>
            obtain ⟨k, hk, rfl, ho, hb⟩ := hrel
            have HO := Lib.hid ho
            have HB := Lib.hid hb
            by_cases hlt : k < M.length
            · obtain ⟨g, rfl⟩ := HP3.out (by omega)
              have hgl := (own_lt HO3.out (g := g) rfl).1
              have d0 := (ownS_cell HO3.out k (by simpa using hlt)).1
              rw [List.getElem?_map, List.getElem?_eq_getElem hlt] at d0
              have e0 := (hb.cell (p := ⟨g, k, none⟩) hgl).trans d0
              simp only [Option.map_some] at e0
              have hss := HLS.out _ (List.getElem_mem hlt)
              have HTK := Lib.hid (show (M.take (k + 1)).map Value.string = (M.take k).map Value.string ++ [.string M[k]] by rw [List.take_succ_eq_append_getElem hlt, List.map_append]; rfl)
              clear d0 ho hb
              generalize M[k] = s at *
              have HCL := Lib.hid (fun W => clone_any s W hss)
              have H1 := Lib.hid (show k + 1 ≤ maxLen by unfold maxLen; omega)
              have H2 := Lib.hid (show (k + 1) * 16 ≤ 140737488355328 by omega)
              go_wp2_with (first | (go_at_call 51; refine (HCL.out _).mono ?_; rintro e w4 ⟨rfl, b4⟩; have O4 := Lib.hid (own_kept HO.out (w' := w4) (fun g hg => b4.block g (own_lt HO.out hg).1)); have B4 := Lib.hid (HB.out.trans (b4.mono HB.out.size)); clear b4) | (at_builtin; refine wpList_append_own _ rfl _ _ 30 rfl w3.heap.size 9 i0 (.string ⟨#[]⟩) 1 16 Try.underlying30 I0.out Z0.out Z1.out Z2.out rfl (by decide) _ k ((M.take k).map Value.string) rfl (O4.out.alloc _) ⟨w4.heap.size, 0, none⟩ 1 1 [.string s] rfl rfl (one_new w4 9 s) (one_str1 s) H1.out H2.out (by have := B4.out.size; simp; omega) ?_; intro v9 w9 ho9 hg9 _))
              go_roundw
              case rel =>
                refine ⟨k + 1, by omega, by go_num, by rw [HTK.out]; exact ho9, ?_⟩
                exact (B4.out.alloc B4.out.size _).grown hg9 (by have := B4.out.size; simp; omega) (fun j hj => (own_lt O4.out hj).2.1)
              case measure => simp [intOf]; omega
            · obtain rfl : k = M.length := by omega
              rw [List.take_length] at HO
              clear ho hb hlt
              go_wp2
              go_ret
              have hbb := HBW.out.size
              have hfin := rowS_weak HO.out hbb
              rw [HMW.out] at hfin
              exact ⟨_, rfl, hfin, HBW.out.trans (HB.out.mono hbb)⟩
end Go.Proofs.Ytalpmnmpggljcaa
