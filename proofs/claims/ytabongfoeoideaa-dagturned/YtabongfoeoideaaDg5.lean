/-
  Layer 12: Add, where the entry comes in.
-/
import Derived.Test.YtabongfoeoideaaDg4
import Derived.Deep.RegionHeld3
import Derived.Deep.RegionLaw
namespace Go.Pal
open Go.RowKit
theorem lookE_append (es : List (ByteArray × List ByteArray)) (e : ByteArray × List ByteArray) (s : ByteArray) : lookE (es ++ [e]) s = if (lookE es s).isSome then lookE es s else if e.1 = s then some e else none := by
  unfold lookE
  rw [List.find?_append]
  cases h : es.find? (fun e => decide (e.1 = s)) with
  | some x => simp
  | none =>
    simp only [Option.none_or, Option.isSome_none, Bool.false_eq_true, if_false]
    by_cases he : e.1 = s <;> simp [he]
theorem lookE_none {es : List (ByteArray × List ByteArray)} {s : ByteArray} (h : (lookE es s).isSome = false) : ∀ e ∈ es, e.1 ≠ s := by
  intro e he hs
  unfold lookE at h
  rw [Option.isSome_eq_false_iff, Option.isNone_iff_eq_none, List.find?_eq_none] at h
  exact h e he (by simpa using hs)
def putV (mv : ByteArray → Value) (id : ByteArray) (v : Value) : ByteArray → Value := fun s => if s = id then v else mv s
theorem mapE_append (es : List (ByteArray × List ByteArray)) (mv : ByteArray → Value) (id : ByteArray) (ps : List ByteArray) (v : Value) (h : (lookE es id).isSome = false) (s : ByteArray) : mapE (es ++ [entOf id ps]) (putV mv id v) s = putF (mapE es mv) id v s := by
  unfold mapE putV putF
  by_cases hs : s = id
  · subst hs
    have e1 : (entOf s ps).1 = s := rfl
    rw [lookE_append, h, if_neg Bool.false_ne_true, if_pos rfl, if_pos e1, if_pos rfl]
    rfl
  · rw [lookE_append, if_neg hs]
    cases hl : lookE es s with
    | some x => simp [hs, hl]
    | none =>
      have : ¬ ((entOf id ps).1 = s) := fun e => hs e.symm
      simp [this, hl, hs]
theorem own_base {w : World} {base b1 n : Nat} {t : TypeId} {size : Nat} {v : Value} {l : List Value} (h : w.ownsRow b1 t size v n l) (hb : base ≤ b1) : w.ownsRow base t size v n l := by
  refine ⟨h.1, ?_⟩
  rcases h.2 with h2 | ⟨g, cap, cur, e, h3, h4⟩
  · exact .inl h2
  · exact .inr ⟨g, cap, cur, e, Nat.le_trans hb h3, h4⟩
end Go.Pal
namespace Go.Proofs.Ytabongfoeoideaa
open Go.RowKit Go.Pal Go.Shelf
set_option linter.unusedVariables false

theorem DagAt.add {w w6 w7 : World} {base G b : Nat} {mv : ByteArray → Value} {es : List (ByteArray × List ByteArray)} {id : ByteArray} {ps : List ByteArray} {v : Value} (h : DagAt w base G (some b) mv es) (h6 : Below w.heap.size w w6) (hno : (lookE es id).isSome = false)
    (hm : MapF Try.prog 9 w7 b (es.length + 1) (putF (mapE es mv) id v)) (ht : w6.grownBy w7 (some b)) (hv : w6.ownsRow base 9 1 v ps.length (ps.map Value.string)) : DagAt w7 base G (some b) (putV mv id v) (es ++ [entOf id ps]) := by
  have hbm := (h.map b rfl).1
  have hne := lookE_none hno
  have hrow : ∀ (x : Value) (k : Nat) (l : List Value), w6.ownsRow base 9 1 x k l → w7.ownsRow base 9 1 x k l := fun x k l hx => own_kept hx (fun g hg => ht.block g (own_lt hx hg).1 (fun e => by
    obtain ⟨_, _, cur, hcur⟩ := own_lt hx hg
    obtain ⟨q1, q2, hq⟩ := (hbm.keep (h6.block b hbm.lt)).obj
    cases e
    rw [hcur] at hq; cases hq))
  refine ⟨?_, (fun e => by cases e), fun b' hb' => ?_, fun e he => ?_, ?_, h.gbase⟩
  · exact ((h.blk.below h6 h.blk.lt).grown ht (fun e => by
      have hB : Blk w6 G 56 [.map (some b)] := h.blk.below h6 h.blk.lt
      obtain ⟨q1, q2, hq⟩ := (hbm.keep (h6.block b hbm.lt)).obj
      have e2 : G = b := by simpa using e
      unfold Blk at hB
      rw [e2, hq] at hB; cases hB))
  · cases hb'
    refine ⟨?_, (h.map b rfl).2⟩
    rw [List.length_append]
    exact hm.same (fun s => mapE_append es mv id ps v hno s)
  · rcases List.mem_append.1 he with he | he
    · have : putV mv id v e.1 = mv e.1 := if_neg (hne e he)
      rw [this]
      exact hrow _ _ _ (own_kept (h.each e he) (fun g hg => h6.block g (own_lt (h.each e he) hg).1))
    · rw [List.mem_singleton.1 he]
      have : putV mv id v (entOf id ps).1 = v := if_pos rfl
      rw [this]
      exact hrow _ _ _ hv
  · rw [List.map_append]
    refine List.nodup_append.2 ⟨h.ids, by simp, fun x hx y hy => ?_⟩
    obtain ⟨e, he, rfl⟩ := List.mem_map.1 hx
    have : y = id := by simpa [entOf] using hy
    rw [this]; exact hne e he
/-- A row of texts isn't the dag's own block. -/
theorem DagAt.row_ne {w : World} {base G : Nat} {m : Option Nat} {mv : ByteArray → Value} {es : List (ByteArray × List ByteArray)} (h : DagAt w base G m mv es) {a : Option Addr} {ps : List ByteArray} (hr : StrRow w a ps) (v : Value) : StrRow (w.setCell ⟨G, 0, none⟩ v) a ps := by
  rcases hr with hr | ⟨x, off, rfl, hx, hc⟩
  · exact .inl hr
  · by_cases h0 : ps = []
    · exact .inl h0
    refine .inr ⟨x, off, rfl, by simpa using hx, fun i hi => ?_⟩
    have hne : x ≠ G := fun e => by
      have hl : 0 < ps.length := List.length_pos_iff.2 h0
      have h1 := hc 0 hl
      rw [e, h.blk.cell] at h1
      cases off with
      | zero => simp at h1
      | succ k => simp at h1
    rw [World.cell?_setCell_other (h := fun e => hne (congrArg Addr.block e).symm)]
    exact hc i hi

theorem dcopied_own {w : World} {base : Nat} {v : Value} {M : List ByteArray} (h : w.ownsRow base 9 1 v M.length (M.map Value.string)) (hl : M.length ≤ 1000000) (hs : ∀ s ∈ M, s.size ≤ 281474976710656) :
    Calls Try.prog 32 #[v] w fun e w' => ∃ v, e = .returned v ∧ w'.ownsRow w.heap.size 9 1 v M.length (M.map Value.string) ∧ Below w.heap.size w w' := by
  obtain ⟨p, cap, rfl, hr⟩ := own_texts h
  exact dcopied_any hr hl hs
set_option maxHeartbeats 4000000 in
set_option maxRecDepth 100000 in
theorem dadd_ok {w : World} {base G : Nat} {m : Option Nat} {mv : ByteArray → Value} {es : List (ByteArray × List ByteArray)} (h : DagAt w base G m mv es) (hbase : base ≤ w.heap.size) (id : ByteArray) (h0 : id.size ≠ 0) (h64 : id.size ≤ 64) (ht : (lookE es id).isSome = false) (hl : es.length < 300) {a : Option Addr} {ps : List ByteArray} (cap : Nat) (hr : StrRow w a ps) (hlen : ps.length ≤ 1000000) (hps : ∀ s ∈ ps, s.size ≤ 281474976710656) (hm : ps.all (fun p => (lookE es p).isSome) = true) :
    Calls Try.prog 14 #[.pointer (some ⟨G, 0, none⟩), .string id, .slice a ps.length cap] w fun e w' => e = .returned (.int .i64 0) ∧ (∃ m' mv', DagAt w' base G m' mv' (es ++ [entOf id (riseL ps)]) ∧ (∀ g, DFoot G m' mv' (es ++ [entOf id (riseL ps)]) g → DFoot G m mv es g ∨ w.heap.size ≤ g)) ∧ Off (DFoot G m mv es) w w' := by
  obtain ⟨e1, e2⟩ := not_empty h0
  have hnot : ∀ (x : Bool) (w : World), (Op.unary .not (.bool x)).run Try.prog w = .ok (.bool (!x)) w := fun _ _ => rfl
  have hmn : ∀ (w : World) (r : Option Nat), (binOp .eql 54 (.map r) (.map none)).run Try.prog w = .ok (.bool r.isNone) w := fun w r => run_eql_map_nil w _ _ _ r Try.underlying54
  have d1 : decide (64 < (id.size : Int)) = false := decide_eq_false (by omega)
  have d2 : decide (300 ≤ (es.length : Int)) = false := decide_eq_false (by omega)
  have HH := Lib.hid (dhas_at h (s := id) (by unfold maxLen; omega))
  have HL := Lib.hid (dlen_at h)
  have HP := Lib.hid (fun k (hk : k < ps.length) => (show Calls Try.prog 15 #[.pointer (some ⟨G, 0, none⟩), .string ps[k]] w fun e w' => e = .returned (.bool true) ∧ w' = w from by
    have h9 := dhas_at h (s := ps[k]) (Nat.le_trans (hps _ (List.getElem_mem hk)) (by unfold maxLen; omega))
    rw [List.all_eq_true.1 hm _ (List.getElem_mem hk)] at h9
    exact h9))
  have HR := Lib.hid (fun h0 => sRow_some hr h0)
  have HROW := Lib.hid hr
  have HD := Lib.hid h
  have HNO := Lib.hid ht
  have HES := Lib.hid hl
  have HPS := Lib.hid hps
  have HB := Lib.hid hbase
  have HI := Lib.hid h64
  have HL9 := Lib.hid hlen
  have HCL := Lib.hid (fun W => clone_any id W (by omega))
  rw [ht] at HH
  have cG : w.cell? ⟨G, 0, none⟩ = some (.map m) := h.blk.cell 0
  have fG : w.frozen? ⟨G, 0, none⟩ = false := h.blk.frozen 0
  clear h h0 h64 ht hl hr hps hm hbase
  go_enter Try.func14, Try.ntmps14
  go_wp2_with (first | (go_at_call 15; refine HH.out.mono ?_; rintro e w' ⟨rfl, e9⟩; rw [e9]; clear e9 w') | (go_at_call 17; refine HL.out.mono ?_; rintro e w' ⟨rfl, e9⟩; rw [e9]; clear e9 w'))
  go_loop [28] (fun i => ∃ k : Nat, k ≤ ps.length ∧ i = .int .i64 k) (fun i => ps.length - (intOf i).toNat)
  case atStart => exact ⟨0, Nat.zero_le _, rfl⟩
  case round =>
    obtain ⟨k, hk, rfl⟩ := hrel
    clear HH HL
    by_cases hlt : k < ps.length
    · obtain ⟨b, off, rfl, _, hc⟩ := HR.out (by omega)
      have ck := hc k hlt
      have HPK := Lib.hid (HP.out k hlt)
      clear hc
      generalize ps[k] = x at *
      go_wp2_with (go_at_call 15; refine HPK.out.mono ?_; rintro e w' ⟨rfl, e9⟩; rw [e9]; clear e9 w')
      go_round
      case rel => exact ⟨k + 1, by omega, by go_num⟩
      case measure => simp [intOf]; omega
    · cases hmm : m with
      | some b =>
        subst hmm
        have D1 := HD
        have HBF : Hid (DFoot G (some b) mv es b ∨ w.heap.size ≤ b) := Lib.hid (.inl (.inr (.inl rfl)))
        have hO1 := Lib.hid (Off.refl (DFoot G (some b) mv es) w)
        go_wp2
        have R1 := HROW
        have c1d : w.drew.cell? ⟨G, 0, none⟩ = some (.map (some b)) := D1.out.blk.cell 0
        have hGl : G < w.heap.size := D1.out.blk.lt
        have HCP := Lib.hid (fun W base' v (ho : (W : World).ownsRow base' 9 1 v (riseL ps).length ((riseL ps).map Value.string)) => dcopied_own ho (Nat.le_trans (rise_le ps) HL9.out) (fun s hs => HPS.out s ((mem_rise ps s).1 hs)))
        have hmb := (D1.out.map b rfl).1
        have hmbl := hmb.lt
        have hGb : G ≠ b := fun e => by
          obtain ⟨q1, q2, hq⟩ := hmb.obj
          have hB := D1.out.blk
          unfold Blk at hB
          rw [e, hq] at hB; cases hB
        have HMB := Lib.hid hmb
        have HU := Lib.hid (fun W (hb : Below w.heap.size w W) v => (show ∃ w', (Instr.mapUpdate 54 (.map (some b)) (.string id) v).run Try.prog W = .ok () w' ∧ MapF Try.prog 9 w' b (es.length + 1) (putF (mapE es mv) id v) ∧ W.mapTurned w' b from by
          have h9 := (HMB.out.keep (hb.block b hmbl)).update Try.underlying9 Try.underlying54 (by have := HES.out; unfold maxLen; omega) (s := id) (by have := HI.out; unfold maxLen; omega) v
          rw [mapE_some, HNO.out] at h9
          exact h9))
        clear hmb
        have HVC := Lib.hid (fun W => (vals_call a ps.length cap W).mono (fun r w' q => (show r = .returned (.func (.func 45) #[] #[.pointer (some ⟨W.heap.size, 0, none⟩)]) ∧ Below W.heap.size W w' ∧ Blk w' W.heap.size 30 [.slice a ps.length cap] from ⟨q.1, by rw [q.2]; exact (Below.refl _ _).alloc (Nat.le_refl _) _, by rw [q.2]; exact Blk.new W 30 [.slice a ps.length cap]⟩)))
        go_region_held3 (fun w' => w'.cell? ⟨G, 0, none⟩ = some (.map (some b)))
          (first | with_reducible exact c1d | with_reducible exact c7 | exact (B6.cell (p := ⟨G, 0, none⟩) hGl).trans c1d | exact (B5.cell (p := ⟨G, 0, none⟩) hGl).trans c1d | exact (B4.cell (p := ⟨G, 0, none⟩) hGl).trans c1d | exact (B3.cell (p := ⟨G, 0, none⟩) hGl).trans c1d | exact (B2.cell (p := ⟨G, 0, none⟩) hGl).trans c1d | go_keep)
          (first
            | (go_at_call 32; refine (HCP.out w5 _ v5 O5).mono ?_; rintro r w6 ⟨v6, rfl, O6, b6⟩; have B6 := B5.trans (b6.mono B5.size); obtain ⟨p6, c6, rfl, _⟩ := rowS_form O6; obtain ⟨w7, hrun7, hm7, ht7⟩ := HU.out w6 B6 (.slice p6 (riseL ps).length c6); have c7 : w7.cell? ⟨G, 0, none⟩ = some (.map (some b)) := (World.cell?_of_block (a := ⟨G, 0, none⟩) (ht7.grown.block G (Nat.lt_of_lt_of_le hGl B6.size) (fun e => hGb (Option.some.inj e)))).trans ((B6.cell (p := ⟨G, 0, none⟩) hGl).trans c1d))
            | (go_at_call 33; refine (comp_call HL9.out O4).mono ?_; rintro r w5 ⟨v5, rfl, O5, g5⟩; have B5 := B4.grown g5 B4.size (fun k hk => by have := (own_lt O4 hk).2.1; have := B3.size; omega))
            | (go_at_call 34; refine (svals_call w2.heap.size cap a ps HL9.out w3 k3.lt (k3.cell 0) (R1.out.below B3)).mono ?_; rintro r w4 ⟨v4, rfl, O4, b4⟩; have B4 := B3.trans (b4.mono B3.size))
            | (go_at_call 35; refine (HVC.out w2).mono ?_; rintro r w3 ⟨rfl, b3, k3⟩; have B3 := B2.trans (b3.mono B2.size))
            | (go_at_call 36; refine (HCL.out _).mono ?_; rintro r w2 ⟨rfl, b2⟩; have B2 : Below w.heap.size w w2 := ⟨b2.os, b2.tape, b2.output, b2.size, b2.block⟩))
        have HV6 := Lib.hid (fun g (hg : (Value.slice p6 (riseL ps).length c6).ownBlock = some g) => Nat.le_trans (Nat.le_trans hO1.out.size B5.size) (own_lt O6 hg).2.1)
        have HO6 := Lib.hid (own_base O6 (Nat.le_trans HB.out (Nat.le_trans hO1.out.size B5.size)))
        have HB6 := Lib.hid B6
        have HM7 := Lib.hid hm7
        have HT7 := Lib.hid ht7
        clear c7 O6 B6 hm7 ht7 B5 B4 B3 B2 O5 O4 g5 b6 b3 k3 b4 b2 hrun7 c1d
        go_wp2
        go_ret
        have hD := D1.out.add HB6.out HNO.out HM7.out HT7.out.grown HO6.out
        refine ⟨rfl, ⟨_, _, hD, fun g hg => ?_⟩, ?_⟩
        · rcases hg with rfl | hg | ⟨e, he, hg⟩
          · exact .inl (.inl rfl)
          · cases hg; exact HBF.out
          · rcases List.mem_append.1 he with he | he
            · rw [show putV mv id _ e.1 = mv e.1 from if_neg (lookE_none HNO.out e he)] at hg
              exact .inl (.inr (.inr ⟨e, he, hg⟩))
            · rw [List.mem_singleton.1 he, show putV mv id _ (entOf id (riseL ps)).1 = Value.slice p6 (riseL ps).length c6 from if_pos rfl] at hg
              exact .inr (HV6.out g hg)
        · refine (hO1.out.trans (Off.of_below HB6.out) (fun g h1 h2 => absurd h2 (by have := hO1.out.size; omega))).trans (Off.of_grown HT7.out.grown) (fun g h1 h2 => ?_)
          have e2 : b = g := Option.some.inj h2
          subst e2
          rcases HBF.out with h | h
          · exact h
          · exact absurd h (by omega)
      | none =>
        subst hmm
        have HE0 := Lib.hid (HD.out.empty rfl)
        have hmm := @run_makeMap Try.prog
        have cGa : ∀ o, (w.alloc o).cell? ⟨G, 0, none⟩ = some (.map none) := fun o => (HD.out.blk.alloc o).cell 0
        have fGa : ∀ o, (w.alloc o).frozen? ⟨G, 0, none⟩ = false := fun o => (HD.out.blk.alloc o).frozen 0
        go_wp2
        obtain ⟨b, hb⟩ : ∃ b, b = w.heap.size := ⟨_, rfl⟩
        obtain ⟨w1, hW⟩ : ∃ W, W = (w.alloc (.map #[] 0)).setCell ⟨G, 0, none⟩ (.map (some w.heap.size)) := ⟨_, rfl⟩
        have hGw : G < w.heap.size := HD.out.blk.lt
        have D1 := Lib.hid (show DagAt w1 base G (some b) mv es by
          refine ⟨?_, (fun e => by cases e), fun b' hb' => ?_, fun e he => ?_, HD.out.ids, HD.out.gbase⟩
          · rw [hW, hb]; exact (HD.out.blk.alloc _).set 0 _
          · cases hb'
            refine ⟨?_, by rw [hb]; exact HB.out⟩
            have hm0 := (MapF.made' w Try.prog 9 hb).keep (w' := w1) (by rw [hW]; exact Below.heap_setCell _ _ _ b (by simp; omega))
            rw [HE0.out]
            exact hm0.same (fun s => rfl)
          · rw [HE0.out] at he; cases he)
        have R1 := Lib.hid (show StrRow w1 a ps by rw [hW]; exact (HD.out.keep (w' := w.alloc (.map #[] 0)) (fun g hg => heap_alloc_old _ _ (HD.out.lt hg).1)).row_ne (HROW.out.below ((Below.refl _ _).alloc (Nat.le_refl _) _)) _)
        have HBF : Hid (DFoot G none mv es b ∨ w.heap.size ≤ b) := Lib.hid (.inr (by omega))
        have hO1 := Lib.hid (show Off (DFoot G none mv es) w w1 by rw [hW]; exact ((Off.refl _ w).alloc _).set (.inr (.inl rfl)) _)
        rw [← hW]
        clear hW hb cG fG cGa fGa hmm hmn
        have c1d : w1.drew.cell? ⟨G, 0, none⟩ = some (.map (some b)) := D1.out.blk.cell 0
        have hGl : G < w1.heap.size := D1.out.blk.lt
        have HCP := Lib.hid (fun W base' v (ho : (W : World).ownsRow base' 9 1 v (riseL ps).length ((riseL ps).map Value.string)) => dcopied_own ho (Nat.le_trans (rise_le ps) HL9.out) (fun s hs => HPS.out s ((mem_rise ps s).1 hs)))
        have hmb := (D1.out.map b rfl).1
        have hmbl := hmb.lt
        have hGb : G ≠ b := fun e => by
          obtain ⟨q1, q2, hq⟩ := hmb.obj
          have hB := D1.out.blk
          unfold Blk at hB
          rw [e, hq] at hB; cases hB
        have HMB := Lib.hid hmb
        have HU := Lib.hid (fun W (hb : Below w1.heap.size w1 W) v => (show ∃ w', (Instr.mapUpdate 54 (.map (some b)) (.string id) v).run Try.prog W = .ok () w' ∧ MapF Try.prog 9 w' b (es.length + 1) (putF (mapE es mv) id v) ∧ W.mapTurned w' b from by
          have h9 := (HMB.out.keep (hb.block b hmbl)).update Try.underlying9 Try.underlying54 (by have := HES.out; unfold maxLen; omega) (s := id) (by have := HI.out; unfold maxLen; omega) v
          rw [mapE_some, HNO.out] at h9
          exact h9))
        clear hmb
        have HVC := Lib.hid (fun W => (vals_call a ps.length cap W).mono (fun r w' q => (show r = .returned (.func (.func 45) #[] #[.pointer (some ⟨W.heap.size, 0, none⟩)]) ∧ Below W.heap.size W w' ∧ Blk w' W.heap.size 30 [.slice a ps.length cap] from ⟨q.1, by rw [q.2]; exact (Below.refl _ _).alloc (Nat.le_refl _) _, by rw [q.2]; exact Blk.new W 30 [.slice a ps.length cap]⟩)))
        go_region_held3 (fun w' => w'.cell? ⟨G, 0, none⟩ = some (.map (some b)))
          (first | with_reducible exact c1d | with_reducible exact c7 | exact (B6.cell (p := ⟨G, 0, none⟩) hGl).trans c1d | exact (B5.cell (p := ⟨G, 0, none⟩) hGl).trans c1d | exact (B4.cell (p := ⟨G, 0, none⟩) hGl).trans c1d | exact (B3.cell (p := ⟨G, 0, none⟩) hGl).trans c1d | exact (B2.cell (p := ⟨G, 0, none⟩) hGl).trans c1d | go_keep)
          (first
            | (go_at_call 32; refine (HCP.out w5 _ v5 O5).mono ?_; rintro r w6 ⟨v6, rfl, O6, b6⟩; have B6 := B5.trans (b6.mono B5.size); obtain ⟨p6, c6, rfl, _⟩ := rowS_form O6; obtain ⟨w7, hrun7, hm7, ht7⟩ := HU.out w6 B6 (.slice p6 (riseL ps).length c6); have c7 : w7.cell? ⟨G, 0, none⟩ = some (.map (some b)) := (World.cell?_of_block (a := ⟨G, 0, none⟩) (ht7.grown.block G (Nat.lt_of_lt_of_le hGl B6.size) (fun e => hGb (Option.some.inj e)))).trans ((B6.cell (p := ⟨G, 0, none⟩) hGl).trans c1d))
            | (go_at_call 33; refine (comp_call HL9.out O4).mono ?_; rintro r w5 ⟨v5, rfl, O5, g5⟩; have B5 := B4.grown g5 B4.size (fun k hk => by have := (own_lt O4 hk).2.1; have := B3.size; omega))
            | (go_at_call 34; refine (svals_call w2.heap.size cap a ps HL9.out w3 k3.lt (k3.cell 0) (R1.out.below B3)).mono ?_; rintro r w4 ⟨v4, rfl, O4, b4⟩; have B4 := B3.trans (b4.mono B3.size))
            | (go_at_call 35; refine (HVC.out w2).mono ?_; rintro r w3 ⟨rfl, b3, k3⟩; have B3 := B2.trans (b3.mono B2.size))
            | (go_at_call 36; refine (HCL.out _).mono ?_; rintro r w2 ⟨rfl, b2⟩; have B2 : Below w1.heap.size w1 w2 := ⟨b2.os, b2.tape, b2.output, b2.size, b2.block⟩))
        have HV6 := Lib.hid (fun g (hg : (Value.slice p6 (riseL ps).length c6).ownBlock = some g) => Nat.le_trans (Nat.le_trans hO1.out.size B5.size) (own_lt O6 hg).2.1)
        have HO6 := Lib.hid (own_base O6 (Nat.le_trans HB.out (Nat.le_trans hO1.out.size B5.size)))
        have HB6 := Lib.hid B6
        have HM7 := Lib.hid hm7
        have HT7 := Lib.hid ht7
        clear c7 O6 B6 hm7 ht7 B5 B4 B3 B2 O5 O4 g5 b6 b3 k3 b4 b2 hrun7 c1d
        go_wp2
        go_ret
        have hD := D1.out.add HB6.out HNO.out HM7.out HT7.out.grown HO6.out
        refine ⟨rfl, ⟨_, _, hD, fun g hg => ?_⟩, ?_⟩
        · rcases hg with rfl | hg | ⟨e, he, hg⟩
          · exact .inl (.inl rfl)
          · cases hg; exact HBF.out
          · rcases List.mem_append.1 he with he | he
            · rw [show putV mv id _ e.1 = mv e.1 from if_neg (lookE_none HNO.out e he)] at hg
              exact .inl (.inr (.inr ⟨e, he, hg⟩))
            · rw [List.mem_singleton.1 he, show putV mv id _ (entOf id (riseL ps)).1 = Value.slice p6 (riseL ps).length c6 from if_pos rfl] at hg
              exact .inr (HV6.out g hg)
        · refine (hO1.out.trans (Off.of_below HB6.out) (fun g h1 h2 => absurd h2 (by have := hO1.out.size; omega))).trans (Off.of_grown HT7.out.grown) (fun g h1 h2 => ?_)
          have e2 : b = g := Option.some.inj h2
          subst e2
          rcases HBF.out with h | h
          · exact h
          · exact absurd h (by omega)
end Go.Proofs.Ytabongfoeoideaa
