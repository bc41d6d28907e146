/-
  BloomTurned: the order of ids, and ids that stand there twice as long as the size is the same, count for nothing.
  No condition but what the row itself says.
-/
import Derived.Test.YtbipmeogcmmhhaaBl9
import Derived.Test.YtbipmeogcmmhhaaBOp
import Derived.Deep.RegionHeld3
import Derived.Deep.RegionLaw
namespace Go.Proofs.Ytbipmeogcmmhhaa.BloomTurned
open Go.ChangeShapes Go.WideShapes Go.ChangeAt Go.RowKit Go.Pal
open Go.ChangeMaps (open_string shut_string)
set_option linter.unusedVariables false

set_option maxHeartbeats 4000000 in
set_option maxRecDepth 100000 in
theorem walk (a : Option Addr) (cap : Nat) (l : List ByteArray) (by_ : Int) (hby : (Lit.int .i64 by_).wf = true) (w : World) (h2 : StrsAt w a l ∧ l.length ≤ cap) :
    Calls Try.prog 14 #[.slice a l.length cap, .int .i64 by_] w fun e w' => e = .returned (.bool true) ∧ Below w.heap.size w w' := by
  obtain ⟨h, hcap⟩ := h2
  have HG := Lib.hid (great14_any (cap := cap) h.row h.len)
  clear hby
  by_cases hgr : greatB14 l = true
  · rw [hgr] at HG
    clear hgr h hcap
    go_enter Try.func14, Try.ntmps14
    go_wp2_with (first
      | (go_at_call 42; refine HG.out.mono ?_; rintro e w1 ⟨rfl, rfl⟩)
      | (go_at_call 37; refine (awake14 _).mono ?_; rintro e w2 ⟨rfl, b2⟩))
    go_ret
    exact ⟨rfl, b2⟩
  rw [Bool.not_eq_true] at hgr
  rw [hgr] at HG
  have hl := (greatB14_no hgr).1
  by_cases h0 : l.length = 0
  · have d0 : ((l.length : Int) == 0) = true := beq_iff_eq.2 (by omega)
    clear hgr h hcap h0
    go_enter Try.func14, Try.ntmps14
    go_wp2_with (first
      | (go_at_call 42; refine HG.out.mono ?_; rintro e w1 ⟨rfl, rfl⟩)
      | (go_at_call 37; refine (awake14 _).mono ?_; rintro e w2 ⟨rfl, b2⟩))
    go_ret
    exact ⟨rfl, b2⟩
  have d0 : ((l.length : Int) == 0) = false := beq_eq_false_iff_ne.2 (by omega)
  have hk : ∃ k : Nat, k < l.length ∧ wrap64 ((IntKind.u64.wrap by_).tmod (l.length : Int)) = (k : Int) := by
    have hu : 0 ≤ IntKind.u64.wrap by_ := by rw [IntKind.wrap_u64]; omega
    rw [Int.tmod_eq_emod_of_nonneg hu]
    have h1 := Int.emod_lt_of_pos (IntKind.u64.wrap by_) (show (0 : Int) < l.length by omega)
    have h2 := Int.emod_nonneg (IntKind.u64.wrap by_) (show (l.length : Int) ≠ 0 by omega)
    rw [IntWalk.wrap64_in _ (by omega)]
    exact ⟨(IntKind.u64.wrap by_ % (l.length : Int)).toNat, by omega, by omega⟩
  obtain ⟨k, hk1, hk2⟩ := hk
  obtain ⟨i0, hi0, hz0, hz1, hz2⟩ := info_parts (show (Try.prog.info? 9).map (fun i => (i.zero, i.size, i.bytes)) = some (some (.string ⟨#[]⟩), 1, 16) by kernel_rfl)
  obtain ⟨b, off, rfl, hbl, hcl⟩ := bRow_some h.row (by omega)
  have HR := Lib.hid (fun W (hb : Below w.heap.size w W) => h.row.below hb)
  have HO1 := Lib.hid (fun W (hb : w.heap.size ≤ (W : World).heap.size) => own_empty hb)
  have i1 : (0 : Int) ≤ (k : Int) := by omega
  have i2 : (k : Int) ≤ (l.length : Int) := by omega
  have i3 : (k : Int) ≤ (cap : Int) := by omega
  have i4 : (k : Int) < (l.length : Int) := by omega
  have i5 : (cap = k) = False := by simp only [eq_iff_iff, iff_false]; omega
  have i6 : (cap = 0) = False := by simp only [eq_iff_iff, iff_false]; omega
  have HK := Lib.hid hk1
  have HL := Lib.hid hl
  clear hgr h hcl h0
  go_enter Try.func14, Try.ntmps14
  go_wp2_with (go_at_call 42; refine HG.out.mono ?_; rintro e w9 ⟨rfl, e9⟩; rw [e9]; clear e9 w9)
  rw [hk2]
  have HNA := Lib.hid (fun W (hb : Below w.heap.size w W) => row_news (strRow_drop (HR.out W hb) k))
  have HNB := Lib.hid (fun W (hb : Below w.heap.size w W) => row_news (strRow_take (HR.out W hb) k))
  have HDL := Lib.hid (show (l.drop k).length = l.length - k from List.length_drop)
  have HTL := Lib.hid (show (l.take k).length = k by rw [List.length_take]; have := HK.out; omega)
  have HC1 : Hid (0 + (l.length - k) ≤ maxLen) := Lib.hid (by unfold maxLen; have := HL.out; omega)
  have HC2 : Hid ((0 + (l.length - k)) * 16 ≤ 140737488355328) := Lib.hid (by have := HL.out; omega)
  have HC3 : Hid (0 + (l.length - k) + k ≤ maxLen) := Lib.hid (by unfold maxLen; have := HL.out; omega)
  have HC4 : Hid ((0 + (l.length - k) + k) * 16 ≤ 140737488355328) := Lib.hid (by have := HL.out; omega)
  have B1 := Lib.hid (below_drew ((Below.refl w.heap.size w).alloc (Nat.le_refl _) (.cells #[] 9)))
  have O1 := Lib.hid (HO1.out w (Nat.le_refl _)).drew
  clear hk2
  by_cases hk0 : 0 < k
  · go_region_held3 (fun _ => True) (trivial)
      (first | (refine step_append_lies _ (by rfl) _ _ _ (by rfl) w.heap.size 9 i0 (.string ⟨#[]⟩) 1 16 Try.underlying30 hi0 hz0 hz1 hz2 rfl (by omega) _ (0 + (l.length - k)) _ (by rfl) o3 ⟨b, off, none⟩ k _ ((l.take k).map Value.string) (by rfl) (by simp only [List.length_map, HTL.out, Nat.mul_one]) (HNB.out _ b3) (all_strs _) hk0 HC3.out HC4.out b3.size _ (by rfl) ?_; intro g4 cap4 w4 hown4 hg4 _ _) | (refine step_append_lies _ (by rfl) _ _ _ (by rfl) w.heap.size 9 i0 (.string ⟨#[]⟩) 1 16 Try.underlying30 hi0 hz0 hz1 hz2 rfl (by omega) _ 0 [] (by rfl) O1.out ⟨b, off + k, none⟩ (l.length - k) _ ((l.drop k).map Value.string) (by rfl) (by simp only [List.length_map, HDL.out, Nat.mul_one]) (HNA.out _ B1.out) (all_strs _) (by have := HK.out; omega) HC1.out HC2.out B1.out.size _ (by rfl) ?_; intro g3 cap3 w3 hown3 hg3 _ _; have b3 := B1.out.grown hg3 B1.out.size (fun q hq => by simp [Value.ownBlock] at hq; omega); have o3 : w3.ownsRow w.heap.size 9 1 (.slice (some ⟨g3, 0, none⟩) (0 + (l.length - k)) cap3) (0 + (l.length - k)) ((l.drop k).map Value.string) := by rw [List.nil_append] at hown3; exact hown3))
    have en : 0 + (l.length - k) + k = l.length := by omega
    have en2 : l.length - k + k = l.length := by omega
    rw [en2]
    have O4 := Lib.hid (show w4.ownsRow w.heap.size 9 1 (.slice (some ⟨g4, 0, none⟩) l.length cap4) l.length ((l.drop k ++ l.take k).map Value.string) by rw [en, ← List.map_append] at hown4; exact hown4)
    have B4 := Lib.hid (b3.grown hg4 b3.size (fun q hq => (own_lt o3 hq).2.1))
    clear hown4 hg4 b3 o3 hown3 hg3 en en2
    have HCK := Lib.hid (fun W (hb : Below w4.heap.size w4 W) => show W.cell? ⟨b, off + k, none⟩ = some (.string l[k]) from by
      obtain ⟨b', off', e, _, hc⟩ := bRow_some (HR.out W (B4.out.trans (hb.mono B4.out.size))) (by omega)
      cases e
      exact hc k hk1)
    have HD1 : Hid (l.length + 1 ≤ maxLen) := Lib.hid (by unfold maxLen; omega)
    have HD2 : Hid ((l.length + 1) * 16 ≤ 140737488355328) := Lib.hid (by omega)
    have R2 : Hid (MakesTo w4 (some ⟨g4, 0, none⟩) l.length (makeB l)) := Lib.hid ⟨_, own_row O4.out (show (l.drop k ++ l.take k).length = l.length by simp; omega), by have := (show (l.drop k ++ l.take k).length = l.length by simp; omega); omega, makeB_rot l k⟩
    have R1 : Hid (MakesTo w4 (some ⟨b, off, none⟩) l.length (makeB l)) := Lib.hid ⟨l, ⟨rfl, HR.out w4 B4.out⟩, by omega, rfl⟩
    have BL := Lib.hid (Below.refl w4.heap.size w4)
    have heq := beqWT (a := makeB l)
    have HX := Lib.hid (show l[k] ∈ l from List.getElem_mem hk1)
    generalize l[k] = x at *
    obtain ⟨M, hM⟩ : ∃ M, M = makeB l := ⟨_, rfl⟩
    rw [← hM] at R1 R2 heq
    have HM := Lib.hid hM
    clear hM
    go_wp2_with (first
      | (go_at_call 43; refine Calls.mono (make_to (by first | exact R2.out | exact R1.out) BL.out) ?_; rintro e w5 ⟨rfl, bb⟩; have BL := Lib.hid bb; have ck := HCK.out _ bb; clear bb)
      | (at_builtin; refine wpList_append_lies _ rfl _ _ 30 rfl w.heap.size 9 i0 (.string ⟨#[]⟩) 1 16 Try.underlying30 hi0 hz0 hz1 hz2 rfl (by omega) _ l.length _ rfl ((own_at O4.out BL.out).alloc _) ⟨_, 0, none⟩ 1 1 [.string x] rfl rfl (World.news_of_block (cs := #[.string x]) (t := 9) (fr := (0, 0)) (heap_alloc_new _ _)) (all_strs [x]) (by omega) HD1.out HD2.out (by have := B4.out.size; have := BL.out.size; simp; omega) _ rfl ?_))
    intro g6 cap6 w6 hown6 hg6 _ _
    have BW := Lib.hid (B4.out.trans (BL.out.mono B4.out.size))
    have OW := Lib.hid (own_at O4.out BL.out)
    have B6 := Lib.hid ((BW.out.alloc BW.out.size _).grown hg6 (by have := BW.out.size; simp; omega) (fun q hq => (own_lt OW.out hq).2.1))
    have R3 : Hid (MakesTo w6 (some ⟨g6, 0, none⟩) (l.length + 1) (makeB ((l.drop k ++ l.take k) ++ [x]))) := Lib.hid ⟨_, own_row (l := (l.drop k ++ l.take k) ++ [x]) (by simp only [List.map_append, List.map_drop, List.map_take, List.append_assoc, List.map_cons, List.map_nil]; exact hown6) (by rw [List.length_append, show (l.drop k ++ l.take k).length = l.length by simp; omega]; rfl), by rw [List.length_append, show (l.drop k ++ l.take k).length = l.length by simp; omega]; simp; omega, rfl⟩
    have R4 : Hid (MakesTo w6 (some ⟨b, off, none⟩) l.length M) := Lib.hid ⟨l, ⟨rfl, HR.out w6 B6.out⟩, by omega, HM.out.symm⟩
    have HSAME := Lib.hid (fun (hs : (makeB ((l.drop k ++ l.take k) ++ [x])).size = M.size) => show makeB ((l.drop k ++ l.take k) ++ [x]) = M from by
      rw [HM.out] at hs ⊢
      refine same_of _ _ hs (fun s => ?_)
      rw [List.mem_append, List.mem_append, Or.comm (a := s ∈ l.drop k), ← List.mem_append, List.take_append_drop]
      exact ⟨fun h => h.elim id (fun h => List.mem_singleton.1 h ▸ HX.out), Or.inl⟩)
    have B0 := Lib.hid (Below.refl w6.heap.size w6)
    clear hown6 hg6 R1 R2 BL BW OW HCK O4 B4 HR HM HD1 HD2
    generalize makeB ((l.drop k ++ l.take k) ++ [x]) = N at *
    by_cases hs : N.size = M.size
    · have hNM := HSAME.out hs
      subst hNM
      clear hs HSAME
      go_wp2_with (first
        | (go_at_call 43; refine Calls.mono (make_to (by first | exact R3.out | exact R4.out) B0.out) ?_; rintro e w5 ⟨rfl, bb⟩; have B0 := Lib.hid bb; clear bb)
        | (go_at_call 37; refine (awake14 _).mono ?_; rintro e w8 ⟨rfl, b8⟩))
      go_ret
      exact ⟨rfl, B6.out.trans ((B0.out.trans (b8.mono B0.out.size)).mono B6.out.size)⟩
    · have d5 : ((N.size : Int) != (M.size : Int)) = true := by rw [bne_iff_ne]; omega
      clear hs HSAME
      go_wp2_with (first
        | (go_at_call 43; refine Calls.mono (make_to (by first | exact R3.out | exact R4.out) B0.out) ?_; rintro e w5 ⟨rfl, bb⟩; have B0 := Lib.hid bb; clear bb)
        | (go_at_call 37; refine (awake14 _).mono ?_; rintro e w8 ⟨rfl, b8⟩))
      go_ret
      exact ⟨rfl, B6.out.trans ((B0.out.trans (b8.mono B0.out.size)).mono B6.out.size)⟩
  · obtain rfl : k = 0 := by omega
    clear hk0 i5
    have O2 := Lib.hid (HO1.out w (Nat.le_refl _)).drew
    have HN0 := Lib.hid (fun W (hb : Below w.heap.size w W) => row_news (HR.out W hb))
    have HL0 : Hid (0 < l.length) := HK
    have HE1 : Hid (0 + l.length ≤ maxLen) := Lib.hid (by unfold maxLen; have := HL.out; omega)
    have HE2 : Hid ((0 + l.length) * 16 ≤ 140737488355328) := Lib.hid (by have := HL.out; omega)
    go_region_held3 (fun _ => True) (trivial)
      (first | (refine step_append_zero (by rfl) _ _ _ (by rfl) w.heap.size 9 i0 1 Try.underlying30 hi0 _ (0 + l.length) _ (by rfl) o3 _ _ (by rfl) ?_) | (refine step_append_lies _ (by rfl) _ _ _ (by rfl) w.heap.size 9 i0 (.string ⟨#[]⟩) 1 16 Try.underlying30 hi0 hz0 hz1 hz2 rfl (by omega) _ 0 [] (by rfl) O1.out ⟨b, off, none⟩ l.length _ (l.map Value.string) (by rfl) (by simp only [List.length_map, Nat.mul_one]) (HN0.out _ B1.out) (all_strs _) HL0.out HE1.out HE2.out B1.out.size _ (by rfl) ?_; intro g4 cap4 w4 hown4 hg4 _ _; have b3 := B1.out.grown hg4 B1.out.size (fun q hq => by simp [Value.ownBlock] at hq; omega); have o3 : w4.ownsRow w.heap.size 9 1 (.slice (some ⟨g4, 0, none⟩) (0 + l.length) cap4) (0 + l.length) (l.map Value.string) := by rw [List.nil_append] at hown4; exact hown4))
    have O4 := Lib.hid (show w4.ownsRow w.heap.size 9 1 (.slice (some ⟨g4, 0, none⟩) l.length cap4) l.length (l.map Value.string) by rw [Nat.zero_add] at o3; exact o3)
    have B4 := Lib.hid b3
    clear hown4 hg4 b3 o3
    have HCK := Lib.hid (fun W (hb : Below w4.heap.size w4 W) => show W.cell? ⟨b, off, none⟩ = some (.string l[0]) from by
      obtain ⟨b', off', e, _, hc⟩ := bRow_some (HR.out W (B4.out.trans (hb.mono B4.out.size))) (by omega)
      cases e
      exact hc 0 hk1)
    have HD1 : Hid (l.length + 1 ≤ maxLen) := Lib.hid (by unfold maxLen; omega)
    have HD2 : Hid ((l.length + 1) * 16 ≤ 140737488355328) := Lib.hid (by omega)
    have R2 : Hid (MakesTo w4 (some ⟨g4, 0, none⟩) l.length (makeB l)) := Lib.hid ⟨_, own_row O4.out (show l.length = l.length from rfl), by have := (show l.length = l.length from rfl); omega, rfl⟩
    have R1 : Hid (MakesTo w4 (some ⟨b, off, none⟩) l.length (makeB l)) := Lib.hid ⟨l, ⟨rfl, HR.out w4 B4.out⟩, by omega, rfl⟩
    have BL := Lib.hid (Below.refl w4.heap.size w4)
    have heq := beqWT (a := makeB l)
    have HX := Lib.hid (show l[0] ∈ l from List.getElem_mem hk1)
    generalize l[0] = x at *
    obtain ⟨M, hM⟩ : ∃ M, M = makeB l := ⟨_, rfl⟩
    rw [← hM] at R1 R2 heq
    have HM := Lib.hid hM
    clear hM
    go_wp2_with (first
      | (go_at_call 43; refine Calls.mono (make_to (by first | exact R2.out | exact R1.out) BL.out) ?_; rintro e w5 ⟨rfl, bb⟩; have BL := Lib.hid bb; have ck := HCK.out _ bb; clear bb)
      | (at_builtin; refine wpList_append_lies _ rfl _ _ 30 rfl w.heap.size 9 i0 (.string ⟨#[]⟩) 1 16 Try.underlying30 hi0 hz0 hz1 hz2 rfl (by omega) _ l.length _ rfl ((own_at O4.out BL.out).alloc _) ⟨_, 0, none⟩ 1 1 [.string x] rfl rfl (World.news_of_block (cs := #[.string x]) (t := 9) (fr := (0, 0)) (heap_alloc_new _ _)) (all_strs [x]) (by omega) HD1.out HD2.out (by have := B4.out.size; have := BL.out.size; simp; omega) _ rfl ?_))
    intro g6 cap6 w6 hown6 hg6 _ _
    have BW := Lib.hid (B4.out.trans (BL.out.mono B4.out.size))
    have OW := Lib.hid (own_at O4.out BL.out)
    have B6 := Lib.hid ((BW.out.alloc BW.out.size _).grown hg6 (by have := BW.out.size; simp; omega) (fun q hq => (own_lt OW.out hq).2.1))
    have R3 : Hid (MakesTo w6 (some ⟨g6, 0, none⟩) (l.length + 1) (makeB (l ++ [x]))) := Lib.hid ⟨_, own_row (l := l ++ [x]) (by simp only [List.map_append, List.map_cons, List.map_nil]; exact hown6) (by rw [List.length_append, show l.length = l.length from rfl]; rfl), by rw [List.length_append, show l.length = l.length from rfl]; simp; omega, rfl⟩
    have R4 : Hid (MakesTo w6 (some ⟨b, off, none⟩) l.length M) := Lib.hid ⟨l, ⟨rfl, HR.out w6 B6.out⟩, by omega, HM.out.symm⟩
    have HSAME := Lib.hid (fun (hs : (makeB (l ++ [x])).size = M.size) => show makeB (l ++ [x]) = M from by
      rw [HM.out] at hs ⊢
      refine same_of _ _ hs (fun s => ?_)
      rw [List.mem_append]
      exact ⟨fun h => h.elim id (fun h => List.mem_singleton.1 h ▸ HX.out), Or.inl⟩)
    have B0 := Lib.hid (Below.refl w6.heap.size w6)
    clear hown6 hg6 R1 R2 BL BW OW HCK O4 B4 HR HM HD1 HD2
    generalize makeB (l ++ [x]) = N at *
    by_cases hs : N.size = M.size
    · have hNM := HSAME.out hs
      subst hNM
      clear hs HSAME
      go_wp2_with (first
        | (go_at_call 43; refine Calls.mono (make_to (by first | exact R3.out | exact R4.out) B0.out) ?_; rintro e w5 ⟨rfl, bb⟩; have B0 := Lib.hid bb; clear bb)
        | (go_at_call 37; refine (awake14 _).mono ?_; rintro e w8 ⟨rfl, b8⟩))
      go_ret
      exact ⟨rfl, B6.out.trans ((B0.out.trans (b8.mono B0.out.size)).mono B6.out.size)⟩
    · have d5 : ((N.size : Int) != (M.size : Int)) = true := by rw [bne_iff_ne]; omega
      clear hs HSAME
      go_wp2_with (first
        | (go_at_call 43; refine Calls.mono (make_to (by first | exact R3.out | exact R4.out) B0.out) ?_; rintro e w5 ⟨rfl, bb⟩; have B0 := Lib.hid bb; clear bb)
        | (go_at_call 37; refine (awake14 _).mono ?_; rintro e w8 ⟨rfl, b8⟩))
      go_ret
      exact ⟨rfl, B6.out.trans ((B0.out.trans (b8.mono B0.out.size)).mono B6.out.size)⟩

theorem own : ownKnob Try.prog.godebug = none := by kernel_rfl
theorem laidOut : laidOutB Try.prog = true := by kernel_rfl

set_option maxRecDepth 100000 in
theorem lifted (os : Os) (started : os.Started) (H : Type) (enc : TypeId × Value → H) :
    ReturnsInHanded {} Try.checked os 14 .any (Rows.bloomTurnedSpec.pre6 enc Try.prog Try.f14 Rows.bloomTurnedRow.domain false) (Rows.bloomTurnedSpec.post enc Try.prog Try.f14 false true false false) := by
  refine returnsInHanded_of_change_sized (C := Try.checked) own started (by kernel_rfl) Try.func14
    (ChangeSpec.witness6 (enc := enc) (C := Try.checked) false ⟨#[], #[.slice none 0 0, .int .i64 0], []⟩ 8 (by kernel_rfl) (by kernel_rfl) (by kernel_rfl) (by kernel_rfl)) ?_
  intro W base args ds gs before hval0 hW _ hsz0 _
  have hsz : (DataW.weightsEach Try.prog (Try.f14.params.toList ++ Rows.bloomTurnedSpec.plain.varTypes Try.prog) (ds ++ gs)).all (· ≤ reachBytes) = true := hsz0
  clear hsz0
  have hval : ∀ (j : Nat) t v, Try.f14.params[j]? = some t → args[j]? = some v → Value.okWide Try.prog W .any base t v := hval0
  have hW' := hW
  obtain ⟨p, q, hA0, hV, rfl, hfz, hnd⟩ := hW
  have hA : DataW.TrodAll enc Try.prog W 0 (fun _ => true) true Try.f14.params.toList args.toList ds p := hA0
  rw [Try.params14] at hA hval hsz
  obtain ⟨v0, vs0, d0, ds0, p0, q0, hargs, rfl, rfl, h0, r0⟩ := trodAll_cons hA
  obtain ⟨v1, vs1, d1, ds1, p1, q1, rfl, rfl, rfl, h1, r1⟩ := trodAll_cons r0
  obtain ⟨rfl, rfl, rfl⟩ := trodAll_nil r1
  obtain rfl : args = #[v0, v1] := by cases args; simp_all
  obtain ⟨rfl, rfl⟩ := trodVars_none hV
  obtain ⟨x0, len0, cap0, rfl⟩ := okWide_slice Try.underlying30 (hval 0 30 v0 rfl rfl)
  have k0 := h0
  have lt0 : ∀ x ∈ p0, x.block < W.heap.size := by obtain ⟨m, hm⟩ := k0; exact DataW.trod_lt m _ _ _ hm
  obtain ⟨l0, rfl, i0⟩ : ∃ l : List ByteArray, len0 = l.length ∧ StrsAt W x0 l ∧ l.length ≤ cap0 := by
    obtain ⟨fuel, hf⟩ := h0
    obtain ⟨a, l, cap, e, hr⟩ := strs_of2 (show DataW.trod enc Try.prog W 0 (fun _ => true) true fuel 30 [.slice x0 len0 cap0] = some _ from hf) (lo_each hsz (j := 0) rfl rfl)
    cases e
    exact ⟨l, rfl, hr⟩
  obtain ⟨a1, rfl, rfl, rfl, w1⟩ := open_int Try.underlying3 (hval 1 3 v1 rfl rfl) h1
  clear hA0 hval0
  refine (walk x0 cap0 l0 a1 w1 W i0).mono fun e W' ⟨he, bel⟩ => ?_
  subst he
  exact ⟨_, rfl, _, _, _, [], _, [], hW', trodAll_mk1 (shut_bool Try.underlying4 _), (trodAll_cons_mk (Below.trod laidOut (by kernel_rfl) (of_decide_eq_true (by kernel_rfl)) k0 bel lt0) (trodAll_cons_mk (shut_int Try.underlying3 w1) trodAll_mk0)), rfl, bel.frame _, fun h => by cases h⟩

theorem over : Rows.bloomTurnedRow.holds Try.pinned (OpenSpec.ofChange Rows.bloomTurnedSpec) :=
  OpenClaim.holds_of_wide 14 Try.f14 rfl rfl rfl rfl rfl rfl rfl ⟨rfl, rfl, rfl, rfl, rfl⟩ rfl rfl rfl rfl rfl (by kernel_rfl) Try.func14 (by kernel_rfl)
    (of_decide_eq_true (by kernel_rfl)) (by unfold Func.isWrapper; first | (rw [if_pos (by decide +kernel)]; kernel_rfl) | (rw [if_neg (by decide +kernel)]; exact ⟨rfl, rfl⟩))
    (fun os started H enc _ => lifted os started H enc)

end Go.Proofs.Ytbipmeogcmmhhaa.BloomTurned
namespace Go.Proofs.Ytbipmeogcmmhhaa
theorem bloomTurned_holds : Rows.BloomTurnedSaid := BloomTurned.over
#print axioms bloomTurned_holds
end Go.Proofs.Ytbipmeogcmmhhaa

