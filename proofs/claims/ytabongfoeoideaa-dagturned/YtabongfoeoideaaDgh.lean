/-
  Layer 12: Order.
-/
import Derived.Test.YtabongfoeoideaaDgf
import Derived.Test.YtabongfoeoideaaDgg
namespace Go.Pal
open Go.RowKit
def untF (es : List (ByteArray × List ByteArray)) (D : List ByteArray) : ByteArray → Option Value := fun x => if memB D x then some (.int .i64 ((parE es x).length : Nat)) else none
def unT (es : List (ByteArray × List ByteArray)) (T : List ByteArray) : ByteArray → Option Value := fun x => if (lookE es x).isSome then some (.int .i64 (untoldN es T x : Nat)) else none
theorem untF_put {es : List (ByteArray × List ByteArray)} {D : List ByteArray} {s : ByteArray} (x : ByteArray) : untF es (D ++ [s]) x = putF (untF es D) s (.int .i64 ((parE es s).length : Nat)) x := by
  unfold untF putF
  by_cases e : x = s
  · rw [if_pos e, memB_iff.2 (by simp [e]), e]; rfl
  · rw [if_neg e]
    have : memB (D ++ [s]) x = memB D x := by rw [Bool.eq_iff_iff, memB_iff, memB_iff]; simp [e]
    rw [this]
theorem untF_all {es : List (ByteArray × List ByteArray)} {D : List ByteArray} (h : ∀ x, x ∈ D ↔ (lookE es x).isSome = true) (x : ByteArray) : unT es [] x = untF es D x := by
  unfold untF unT
  rw [untold_nil]
  have : memB D x = (lookE es x).isSome := by rw [Bool.eq_iff_iff, memB_iff]; exact h x
  rw [this]
def unK (es : List (ByteArray × List ByteArray)) (T : List ByteArray) (a : ByteArray) (S : List ByteArray) : ByteArray → Option Value := fun x => if (lookE es x).isSome then some (.int .i64 ((if memB S x then untoldN es (T ++ [a]) x else untoldN es T x : Nat) : Int)) else none
theorem unK_nil {es : List (ByteArray × List ByteArray)} {T : List ByteArray} {a : ByteArray} (x : ByteArray) : unK es T a [] x = unT es T x := by
  unfold unK unT; rw [memF.2 (by simp)]; rfl
theorem unK_put {es : List (ByteArray × List ByteArray)} {T : List ByteArray} {a q : ByteArray} {S : List ByteArray} (hq : (lookE es q).isSome = true) (x : ByteArray) : unK es T a (S ++ [q]) x = putF (unK es T a S) q (.int .i64 (untoldN es (T ++ [a]) q : Nat)) x := by
  unfold unK putF
  by_cases e : x = q
  · rw [if_pos e, e, if_pos hq, memB_iff.2 (by simp)]; rfl
  · rw [if_neg e]
    have : memB (S ++ [q]) x = memB S x := by rw [Bool.eq_iff_iff, memB_iff, memB_iff]; simp [e]
    rw [this]
theorem unK_new {es : List (ByteArray × List ByteArray)} {T : List ByteArray} {a q : ByteArray} {S : List ByteArray} (hq : (lookE es q).isSome = true) (hn : q ∉ S) : unK es T a S q = some (.int .i64 (untoldN es T q : Nat)) := by
  unfold unK; rw [if_pos hq, memF.2 hn]; rfl
theorem unK_all {es : List (ByteArray × List ByteArray)} {cs : ByteArray → List ByteArray} (hc : ChildOf es cs) {T : List ByteArray} {a : ByteArray} (x : ByteArray) : unT es (T ++ [a]) x = unK es T a (cs a) x := by
  unfold unK unT
  cases hm : memB (cs a) x with
  | true => rfl
  | false => rw [told_other (fun h => memF.1 hm ((hc.mem a x).2 h))]; rfl
theorem QR.tail {w : World} {t : TypeId} {base g off n cap : Nat} {a : ByteArray} {rest : List ByteArray} (h : QR w t base (.slice (some ⟨g, off, none⟩) n cap) (a :: rest)) : QR w t base (.slice (some ⟨g, off + 1, none⟩) rest.length (cap - 1)) rest := by
  rcases h with ⟨_, h⟩ | ⟨g', off', cap', cur, e, hb, hh, h2, h3, h4, h5⟩
  · cases h
  · cases e
    rw [List.length_cons] at h3 h5
    refine .inr ⟨g, off + 1, cap - 1, cur, rfl, hb, hh, by omega, by omega, by omega, fun i hi => ?_⟩
    have := h5 (i + 1) (by omega)
    rw [show off + 1 + i = off + (i + 1) by omega, this, List.getD_cons_succ]
theorem QR.tail0 {w : World} {t : TypeId} {base g off n : Nat} {a : ByteArray} {rest : List ByteArray} (h : QR w t base (.slice (some ⟨g, off, none⟩) n 1) (a :: rest)) : QR w t base (.slice (some ⟨g, off, none⟩) rest.length 0) rest := by
  rcases h with ⟨_, h⟩ | ⟨g', off', cap', cur, e, hb, hh, h2, h3, h4, h5⟩
  · cases h
  · cases e
    rw [List.length_cons] at h3 h5
    obtain rfl : rest = [] := List.eq_nil_of_length_eq_zero (by omega)
    exact .inr ⟨g, off, 0, cur, rfl, hb, hh, by omega, Nat.le_refl _, by omega, fun i hi => by cases hi⟩
end Go.Pal
namespace Go.Proofs.Ytabongfoeoideaa
open Go.RowKit Go.Pal Go.Shelf
set_option linter.unusedVariables false
theorem zeroI (w : World) : (zeroValue 3).run Try.prog w = .ok (.int .i64 0) w := by kernel_rfl
set_option maxHeartbeats 4000000 in
set_option maxRecDepth 100000 in
theorem dorder_at {w : World} {base G b : Nat} {mv : ByteArray → Value} {es : List (ByteArray × List ByteArray)} (h : DagAt w base G (some b) mv es) (hok : DagOk es) :
    Calls Try.prog 25 #[.pointer (some ⟨G, 0, none⟩)] w fun e w' => ∃ v, e = .returned v ∧ w'.ownsRow w.heap.size 9 1 v (orderL es).length ((orderL es).map Value.string) ∧ Below w.heap.size w w' := by
  have HD := Lib.hid h
  have HOK := Lib.hid hok
  have hmm := @run_makeMap Try.prog
  have HM0 := Lib.hid (h.map b rfl).1
  have hbl := (h.map b rfl).1.lt
  have hc0 : ∀ o, (w.alloc o).cell? ⟨G, 0, none⟩ = some (.map (some b)) := fun o => (h.blk.alloc o).cell 0
  obtain ⟨i0, hi0, hz0, hz1, hz2⟩ := info_parts (show (Try.prog.info? 9).map (fun i => (i.zero, i.size, i.bytes)) = some (some (.string ⟨#[]⟩), 1, 16) by kernel_rfl)
  have I0 := Lib.hid hi0
  have Z0 := Lib.hid hz0
  have Z1 := Lib.hid hz1
  have Z2 := Lib.hid hz2
  clear h hok hi0 hz0 hz1 hz2
  go_enter Try.func25, Try.ntmps25
  go_wp2_with (first
    | (go_at_call 37; refine (dent_at (hc0 _)).mono ?_; rintro e w' ⟨rfl, e9⟩; rw [e9]; clear e9 w')
    | (at_range; refine wpList_range_F _ rfl _ 54 rfl 9 30 Try.underlying9 Try.underlying54 b es.length (mapE es mv) rfl (HM0.out.keep (heap_alloc_old _ _ hbl)) ?_; intro w0 hr0 hg0 hz0))
  go_frame
  obtain ⟨r, hr⟩ : ∃ r, r = (w.alloc (.map #[] 0)).heap.size := ⟨_, rfl⟩
  rw [← hr] at hr0 hz0 ⊢
  have HRW := Lib.hid (show r = w.heap.size + 1 by simpa using hr)
  have hbelow0 : Below w.heap.size w w0 := ((Below.refl w.heap.size w).alloc (Nat.le_refl _) _).grown hg0 (by simp) (fun j hj => by cases hj)
  have hU0 : MapF Try.prog 9 w0 w.heap.size ([] : List ByteArray).length (untF es []) := ((MapF.made w Try.prog 9).keep (hg0.block _ (by simp) (by simp))).same (fun s => rfl)
  have hr00 : r < w0.heap.size := by omega
  clear hr hg0 hz0 hc0 hmm
  go_loopw [4, 18] (fun v4 _ wr => ∃ left cnt D H, RangeF Try.prog 9 wr b r es.length (mapE es mv) left cnt ∧ MapF Try.prog 9 wr w.heap.size (D : List ByteArray).length (untF es D) ∧ D.Nodup ∧ (∀ x, x ∈ D ↔ (lookE es x).isSome = true ∧ left x = false) ∧ wr.ownsRow (r + 1) 9 1 v4 H.length ((H : List ByteArray).map Value.string) ∧ H.Nodup ∧ (∀ x, x ∈ H ↔ x ∈ D ∧ parE es x = []) ∧ Below w.heap.size w wr ∧ r < wr.heap.size) (fun _ _ wr => wr.rangeLeft b r)
  case atStart => exact ⟨_, _, [], [], hr0, hU0, List.nodup_nil, fun x => ⟨fun h => by (cases h), fun h => by
    have h2 := h.2
    rw [mapE_some, h.1] at h2; cases h2⟩, World.ownsRow_nil _ _ _ _, List.nodup_nil, fun x => by simp, hbelow0, hr00⟩
  case round =>
    obtain ⟨left, cnt, D, H, hr1, hu1, hdn, hdm, hown, hnd, hmem, hbw, hrl⟩ := hrel
    have HR := Lib.hid hr1
    have HUU := Lib.hid hu1
    have HDN := Lib.hid hdn
    have HDM := Lib.hid hdm
    have HOWN := Lib.hid hown
    have HND := Lib.hid hnd
    have HMEM := Lib.hid hmem
    have HB := Lib.hid hbw
    have hws := hbw.size
    clear hr1 hu1 hdn hdm hown hnd hmem hbw hr0 hU0 hbelow0 hr00
    go_wp2_with (at_next; refine wpList_next_F _ rfl _ rfl 9 Try.underlying9 b r es.length (mapE es mv) left cnt rfl HR.out ?_ ?_)
    · intro hc0 hl0
      have HL0 := Lib.hid hl0
      clear hl0
      have hgD : GoodL es D := ⟨HDN.out, fun x hx => ((HDM.out x).1 hx).1⟩
      have hDall : ∀ x, x ∈ D ↔ (lookE es x).isSome = true := fun x => by rw [HDM.out x, HL0.out x]; simp
      have hlD : D.length ≤ 300 := Nat.le_trans hgD.len HOK.out.len
      have hgH : GoodL es H := ⟨HND.out, fun x hx => hgD.2 x ((HMEM.out x).1 hx).1⟩
      have hlH : H.length ≤ 300 := Nat.le_trans hgH.len HOK.out.len
      have hrdy : riseL H = readyL es [] := rise_eq (ready_rising es []) (fun x => by
        rw [HMEM.out x, hDall x, Go.Pal.mem_ready, untold_nil]
        simp)
      have HSRT := Lib.hid (sort_set (by omega) HND.out HOWN.out)
      rw [hrdy] at HSRT
      have HUU1 := Lib.hid (HUU.out.same (fun x => untF_all hDall x))
      have HCH := Lib.hid (fun W (hb : Below w.heap.size w W) => dchildren_at (HD.out.below hb (Nat.le_refl _)) HOK.out)
      have HOFF := Lib.hid (fun g (hg : Value.ownBlock _ = some g) => (own_lt HOWN.out hg).2.1)
      clear hgD hDall hgH hlH hrdy
      go_wp2_with (first
        | (go_at_call 40; refine (HCH.out w4 B4).mono ?_; rintro e w5 ⟨K, f, cs, rfl, hch, hgk, hco, hb5⟩)
        | (go_at_call 41; refine HSRT.out.mono ?_; rintro e w4 ⟨rfl, ho4, hg4⟩; have B4 : Below w.heap.size w w4 := HB.out.grown hg4 (by omega) (fun j hj => by have := HOFF.out j hj; have := HRW.out; omega)))
      have hC5 := hch.map.lt
      have H4 := Lib.hid (QR.of_own ho4)
      have h4s := hg4.size
      have HCH5 := Lib.hid hch
      have HGK := Lib.hid hgk
      have HCO := Lib.hid hco
      have HB5 := Lib.hid (B4.trans (hb5.mono B4.size))
      have hC4 : r < w4.heap.size := by omega
      have HQ5 := Lib.hid (H4.out.keep (w' := w5) (fun g hg => hb5.block g (H4.out.lt hg).1))
      have HQL := Lib.hid (fun g (hg : Value.ownBlock _ = some g) => (H4.out.lt hg).1)
      have HU4 := Lib.hid (HUU1.out.keep (w' := w5) ((hb5.block _ (by have := HUU1.out.lt; omega)).trans (hg4.block _ HUU1.out.lt (fun e => by have := HOFF.out _ e.symm; have := HRW.out; omega))))
      have h5s := hb5.size
      clear hch hgk hco hb5 ho4 hg4 H4 B4 HSRT HUU HUU1 HCH
      go_loopw [4, 5] (fun v4 v5 wr => ∃ T : List ByteArray, QR wr 9 (r + 1) v4 (readyL es T) ∧ wr.ownsRow w5.heap.size 9 1 v5 T.length (T.map Value.string) ∧ MapF Try.prog 9 wr w.heap.size D.length (unT es T) ∧ GoodL es T ∧ ClosedT es T ∧ orderGo es (es.length - T.length) T = orderL es ∧ (∀ g, w4.heap.size ≤ g → g < w5.heap.size → wr.heap[g]? = w5.heap[g]?) ∧ (∀ g, v4.ownBlock = some g → (g < w4.heap.size ∨ w5.heap.size ≤ g) ∧ v5.ownBlock ≠ some g) ∧ Below w.heap.size w wr ∧ w5.heap.size ≤ wr.heap.size) (fun _ v5 _ => match v5 with | .slice _ n _ => es.length - n | _ => 0)
      case atStart => exact ⟨[], HQ5.out, World.ownsRow_nil _ _ _ _, HU4.out, ⟨List.nodup_nil, fun x hx => (by cases hx)⟩, (fun y hy => (by cases hy)), rfl, (fun g _ _ => rfl), (fun g hg => ⟨.inl (HQL.out g hg), fun e => (by cases e)⟩), HB5.out, Nat.le_refl _⟩
      case round =>
        obtain ⟨T, hq, hown, hu, hgT, hcl, hgo, hk, hap, hbw, hs⟩ := hrel
        cases hrd : readyL es T with
        | nil =>
          rw [hrd] at hq
          obtain ⟨qa, qc, rfl, _⟩ := hq.form
          have hT : orderL es = T := by rw [← hgo]; exact order_end hrd _
          have HOT := Lib.hid hT
          have HBT := Lib.hid hbw
          have HCP := Lib.hid (dcopied_own hown (Nat.le_trans hgT.len (by have := HOK.out.len; omega)) (fun s hs => by
            obtain ⟨e, he, rfl⟩ := List.mem_map.1 (lookE_isSome.1 (hgT.2 s hs))
            have := HOK.out.size e he; omega))
          obtain ⟨p5, c5, rfl, _⟩ := rowS_form hown
          clear hq hrd hT hown hu hgT hcl hgo hk hap hbw
          go_wp2_with (go_at_call 32; refine HCP.out.mono ?_; rintro e w6 ⟨v6, rfl, ho6, hb6⟩; obtain ⟨p6, c6, rfl, _⟩ := rowS_form ho6; have HO6 := Lib.hid ho6; have HB6 := Lib.hid hb6; clear ho6 hb6)
          go_ret
          rw [HOT.out]
          exact ⟨_, rfl, own_base HO6.out HBT.out.size, HBT.out.trans (HB6.out.mono HBT.out.size)⟩
        | cons a rest =>
          have hstep := told_step hgT hrd
          have GT := Lib.hid hgT
          rw [hrd] at hq
          have hal : a.size ≤ maxLen := by
            obtain ⟨e, he, e2⟩ := List.mem_map.1 (lookE_isSome.1 (hstep.2 a (by simp)))
            have := HOK.out.size e he
            rw [← e2]; unfold maxLen; omega
          rcases id hq with ⟨_, hx⟩ | ⟨g, off, qc, cur, rfl, hqb, hqh, hq2, hq3, hq4, hq5⟩
          · cases hx
          have ca : wr.cell? ⟨g, off, none⟩ = some (.string a) := by
            have := hq5 0 (by simp)
            simpa [World.cell?, hqh] using this
          have HST := Lib.hid hstep
          have HRD := Lib.hid hrd
          have HCL := Lib.hid hcl
          have HGO := Lib.hid hgo
          have HK := Lib.hid hk
          have HAP := Lib.hid hap
          have HBT := Lib.hid hbw
          have HU := Lib.hid hu
          have HOWNT := Lib.hid hown
          have HQ := Lib.hid hq
          have hTl : T.length ≤ 300 := Nat.le_trans hgT.len HOK.out.len
          have H1 := Lib.hid (show T.length + 1 ≤ maxLen by unfold maxLen; omega)
          have H2 := Lib.hid (show (T.length + 1) * 16 ≤ 140737488355328 by omega)
          obtain ⟨M, hM⟩ : ∃ M, M = cs a := ⟨_, rfl⟩
          have hMn : M.Nodup := by rw [hM]; exact HCO.out.nodup a
          have hMin : ∀ x ∈ M, a ∈ parE es x := fun x hx => (HCO.out.mem a x).1 (hM ▸ hx)
          have hMl : M.length ≤ 300 := Nat.le_trans (GoodL.len ⟨hMn, fun x hx => parE_there (hMin x hx)⟩) HOK.out.len
          have haT : a ∉ T := (Go.Pal.mem_ready.1 (show a ∈ readyL es T by rw [HRD.out]; exact List.mem_cons_self)).2.1
          have HMM := Lib.hid hM
          have HMN := Lib.hid hMn
          have HMI := Lib.hid hMin
          have HAT := Lib.hid haT
          have HAL := Lib.hid hal
          clear hM hMn hMin haT hal
          obtain ⟨pv, cv, rfl, _⟩ := rowS_form hown
          have HHS := Lib.hid (show w5.heap.size ≤ wr.heap.size from hs)
          have h54 := HCH5.out.map.lt
          have hrow5 := HCH5.out.get a
          obtain ⟨v0, hv0⟩ : ∃ v0, v0 = (f a).getD (.slice none 0 0) := ⟨_, rfl⟩
          rw [← hv0, ← HMM.out] at hrow5
          obtain ⟨pc, cc, rfl, _, _, hpc⟩ := rowS_form hrow5
          have HV0 := Lib.hid hv0
          have HROW := Lib.hid hrow5
          have HPC := Lib.hid hpc
          have hql : (1 : Nat) ≤ qc := by simp at hq3; omega
          have hrl : (rest.length + 1 : Int) > 0 := by omega
          have HQC := Lib.hid hql
          have HQH := Lib.hid hqh
          obtain ⟨n4, hn4⟩ : ∃ n4, n4 = rest.length := ⟨_, rfl⟩
          have HN4 := Lib.hid hn4
          rw [List.length_cons, ← hn4]
          have hv4g : ∀ g', (Value.slice (some ⟨g, off, none⟩) (n4 + 1) qc).ownBlock = some g' → g' = g := fun g' hg => by have : g = g' := by simpa [Value.ownBlock] using hg
                                                                                                                           exact this.symm
          have HG := Lib.hid hv4g
          have hgap := HAP.out g rfl
          have HGAP := Lib.hid hgap
          have hgr := (HQ.out.lt (g := g) rfl)
          have HGR := Lib.hid hgr
          clear hq hqh hcl hgo hk hap hbw hu hown hstep hrd hn4 hgT hv0 hrow5 hpc hv4g hgap hgr hs hq3 hq2 hq4 hq5 hqb
          rcases Nat.eq_or_lt_of_le hql with hq1 | hq1
          · obtain rfl : qc = 1 := hq1.symm
            clear hql hq1
            have HTL := Lib.hid (fun (W : World) (h9 : QR W 9 (r + 1) (.slice (some ⟨g, off, none⟩) (a :: rest).length 1) (a :: rest)) => h9.tail0)
            go_wp2_with (at_builtin; refine wpList_append_own_at _ rfl _ _ 30 rfl w5.heap.size 9 i0 (.string ⟨#[]⟩) 1 16 Try.underlying30 I0.out Z0.out Z1.out Z2.out rfl (by decide) _ T.length (T.map Value.string) rfl (HOWNT.out.alloc _) ⟨wr.heap.size, 0, none⟩ 1 1 [.string a] rfl rfl (one_new wr 9 a) (one_str1 a) H1.out H2.out (by have := HHS.out; simp; omega) ?_; intro v9 w9 ho9 hg9 _ hat9; have hga : wr.grownBy w9 (Value.ownBlock (.slice pv T.length cv)) := (World.grownBy_alloc wr _ _).trans hg9; have hn2 : ∀ g, (Value.slice pv T.length cv).ownBlock = some g → w5.heap.size ≤ g := fun g hg => (own_lt HOWNT.out hg).2.1; have hk9 : ∀ g, w4.heap.size ≤ g → g < w5.heap.size → w9.heap[g]? = w5.heap[g]? := fun g h1 h2 => (hga.block g (by have := HHS.out; omega) (fun e => by have := hn2 g e.symm; omega)).trans (HK.out g h1 h2); have hlk := (HCH5.out.map.keep (w' := w9) (hk9 _ (Nat.le_refl _) h54)).lookup Try.underlying9 Try.underlying54 (zeroS w9) HAL.out; rw [← HV0.out] at hlk; obtain ⟨p9, c9, rfl, _⟩ := rowS_form ho9; have HO9 := Lib.hid ho9; have HGA := Lib.hid hga; have HAT9 := Lib.hid hat9; have HK9 := Lib.hid hk9; clear ho9 hga hg9 hat9 hk9 hn2)
            have HG9 := Lib.hid (show w9.heap[g]? = wr.heap[g]? from HGA.out.block g HGR.out.1 (fun e => HGAP.out.2 e.symm))
            have hgs := HGA.out.size
            have HU9 := Lib.hid ((HU.out.keep (w' := w9) (HGA.out.block _ HU.out.lt (fun e => by have := (own_lt HOWNT.out e.symm).2.1; have := HB5.out.size; omega))).same (g := unK es T a []) (fun x => unK_nil x))
            have hq9 := HTL.out w9 (HQ.out.keep (w' := w9) (fun g' hg => by obtain rfl := HG.out g' hg; exact HG9.out))
            have h9o : ∀ g', Value.ownBlock (.slice p9 (T.length + 1) c9) = some g' → g' ≠ g := fun g' hg e => by
              rcases HAT9.out with e2 | e2
              · exact HGAP.out.2 (by rw [← e]; exact (show Value.ownBlock (.slice p9 (T.length + 1) c9) = Value.ownBlock (.slice pv T.length cv) from e2) ▸ hg)
              · rw [e2] at hg; have := Option.some.inj hg; have := HGR.out.1; simp at *; omega
            have HQ9 := Lib.hid hq9
            have H9O := Lib.hid h9o
            have HB9 := Lib.hid (show Below w.heap.size w w9 from HBT.out.grown HGA.out HBT.out.size (fun j hj => by have := (own_lt HOWNT.out hj).2.1; have := HB5.out.size; omega))
            have HRR := Lib.hid (by have := ready_rising es T; rw [HRD.out] at this; exact this : Rising (a :: rest))
            have hR0 := HRR.out.tail
            clear hq9 h9o
            have HR0 := Lib.hid hR0
            clear hR0
            rename World => wi0
            go_loopw [4, 54] (fun v4 j wi => ∃ k R, k ≤ M.length ∧ j = .int .i64 (k : Nat) ∧ QR wi 9 (r + 1) v4 R ∧ Rising R ∧ (∀ x, x ∈ R ↔ x ∈ rest ∨ (x ∈ M.take k ∧ untoldN es (T ++ [a]) x = 0)) ∧ MapF Try.prog 9 wi w.heap.size D.length (unK es T a (M.take k)) ∧ (∀ g, w4.heap.size ≤ g → g < w5.heap.size → wi.heap[g]? = w5.heap[g]?) ∧ wi.ownsRow w5.heap.size 9 1 (.slice p9 (T.length + 1) c9) (T.length + 1) (T.map Value.string ++ [.string a]) ∧ (∀ g, v4.ownBlock = some g → (g < w4.heap.size ∨ w5.heap.size ≤ g) ∧ Value.ownBlock (.slice p9 (T.length + 1) c9) ≠ some g) ∧ Below w.heap.size w wi ∧ w5.heap.size ≤ wi.heap.size) (fun _ j _ => M.length - (intOf j).toNat)
            case atStart => exact ⟨0, rest, Nat.zero_le _, rfl, by rw [HN4.out]; exact HQ9.out, HR0.out, fun x => by simp, HU9.out, HK9.out, HO9.out, fun g' hg => by
              obtain rfl : g' = g := by have : g = g' := by simpa [Value.ownBlock] using hg
                                        exact this.symm
              exact ⟨HGAP.out.1, fun e => H9O.out _ e rfl⟩, HB9.out, by have := HHS.out; omega⟩
            case round =>
              obtain ⟨k, R, hk, rfl, hq, hRs, hRm, hu, hkk, ho, hap, hbw, hs⟩ := hrel
              have HQ3 := Lib.hid hq
              have HRS := Lib.hid hRs
              have HRM := Lib.hid hRm
              have HU3 := Lib.hid hu
              have HKK := Lib.hid hkk
              have HO3 := Lib.hid ho
              have HAP3 := Lib.hid hap
              have HB3 := Lib.hid hbw
              have HS3 := Lib.hid hs
              by_cases hlt : k < M.length
              · have hqm : M[k] ∈ M := List.getElem_mem hlt
                have hpar := HMI.out _ hqm
                have hthere := parE_there hpar
                have hnt := getE_not_take HMN.out hlt
                have HTK := Lib.hid (List.take_succ_eq_append_getElem hlt)
                have hroww := own_kept HROW.out (w' := wr) (fun g' hg => hkk g' (own_lt HROW.out hg).2.1 (own_lt HROW.out hg).1)
                obtain ⟨gC, rfl⟩ := HPC.out (by omega)
                have ck := (ownS_cell hroww k (by omega)).1
                rw [List.getElem?_map, List.getElem?_eq_getElem hlt, Option.map_some] at ck
                have hqx : M[k].size ≤ maxLen := by
                  obtain ⟨e, he, e2⟩ := List.mem_map.1 (lookE_isSome.1 hthere)
                  have := HOK.out.size e he
                  rw [← e2]; unfold maxLen; omega
                have hcount := told_child HOK.out hpar HAT.out
                have hunk := unK_new (T := T) (a := a) hthere hnt
                have hRl : R.length ≤ 300 := Nat.le_trans (GoodL.len (es := es) ⟨hRs.nodup, fun x hx => by
                  rcases (hRm x).1 hx with h | h
                  · exact (ready_good es T).2 x (by rw [HRD.out]; exact List.mem_cons_of_mem _ h)
                  · exact parE_there (HMI.out x (List.mem_of_mem_take h.1))⟩) HOK.out.len
                have hqR : M[k] ∉ R := fun h => by
                  rcases (hRm _).1 h with h | h
                  · have := (Go.Pal.mem_ready.1 (show M[k] ∈ readyL es T by rw [HRD.out]; exact List.mem_cons_of_mem _ h)).2.2
                    omega
                  · exact hnt h.1
                have hul : untoldN es (T ++ [a]) M[k] ≤ 1000000 := Nat.le_trans (List.length_filter_le _ _) (HOK.out.parLen _)
                have hlk1 := hu.lookup Try.underlying9 Try.underlying70 (zeroI wr) hqx
                rw [hunk, Option.getD_some, hcount] at hlk1
                have hput := fun x => unK_put (T := T) (a := a) (S := M.take k) hthere x
                rw [← HTK.out] at hput
                have HPUT := Lib.hid hput
                have HTH := Lib.hid hthere
                have HNT := Lib.hid hnt
                have HUNK := Lib.hid hunk
                have HQX := Lib.hid hqx
                have HQR := Lib.hid hqR
                have HRL := Lib.hid hRl
                clear hq hRs hRm hu hkk ho hap hbw hs hqm hpar hthere hnt hroww hqx hcount hunk hRl hqR hput
                generalize M[k] = q at *
                obtain ⟨u, hu⟩ : ∃ u, u = untoldN es (T ++ [a]) q := ⟨_, rfl⟩
                rw [← hu] at hlk1 hul
                have HUN := Lib.hid hu
                obtain ⟨m, hm⟩ : ∃ m : Int, m = ((u + 1 : Nat) : Int) := ⟨_, rfl⟩
                have hw : IntKind.i64.wrap (m - 1) = (u : Int) := by rw [hm]; rw [show ((u + 1 : Nat) : Int) - 1 = (u : Int) by omega]; rw [IntKind.wrap_i64]; omega
                have HM1 := Lib.hid hm
                rw [← hm] at hlk1
                have HDL := Lib.hid (show D.length < maxLen by unfold maxLen; omega)
                clear hm hu hul
                by_cases hu0 : u = 0
                · subst hu0
                  have hw0 : IntKind.i64.wrap (m - 1) = 0 := hw
                  clear hw
                  go_wp2_with (first
                    | (at_mapUpdate; refine wpList_mapUpdate_F _ rfl _ _ _ 70 rfl 9 3 Try.underlying9 Try.underlying70 w.heap.size D.length (unK es T a (M.take k)) rfl HU3.out HDL.out q HQX.out (.int .i64 0) rfl rfl ?_; intro w10 hm10 ht10; rw [HUNK.out] at hm10; have hm10b := hm10.same (g := unK es T a (M.take (k + 1))) (fun x => by rw [HPUT.out x, ← HUN.out]; rfl); have hlk2 := hm10b.lookup Try.underlying9 Try.underlying70 (zeroI w10) HQX.out; rw [HPUT.out q, ← HUN.out] at hlk2; simp only [putF, if_true, Option.getD_some] at hlk2; have HU10 := Lib.hid hm10b; have HT10 := Lib.hid ht10.grown; have HQ10 := Lib.hid (HQ3.out.keep (w' := w10) (fun g' hg => ht10.grown.block g' (HQ3.out.lt hg).1 (fun e => by have := (HQ3.out.lt hg).2.1; have := Option.some.inj e; have := HRW.out; omega))); clear hm10 hm10b ht10)
                    | (go_at_call 42; refine (bs_call HQ10.out (by have := HRL.out; omega) HRS.out q).mono ?_; rintro e w11 ⟨fd, rfl, qn, hw11⟩; have HH11 := Lib.hid (show w11.heap = w10.heap by rw [hw11]; rfl); have HW11 := Lib.hid (show w10.grownBy w11 none by rw [hw11]; exact ⟨rfl, rfl, rfl, Nat.le_refl _, fun _ _ _ => rfl⟩); clear hw11)
                    | (go_at_call 43; refine (ins_call (w := w11.alloc (.cells #[.string q] 9)) (base := r + 1) (l := R) ((HQ10.out.keep (w' := w11) (fun g' hg => by rw [HH11.out])).keep (fun g' hg => heap_alloc_old _ _ (by rw [HH11.out]; exact (HQ10.out.lt hg).1))) (by have := HRL.out; omega) q (vb := w11.heap.size) (vc := 1) (heap_alloc_new _ _) (fun e => by have := (HQ10.out.lt e).1; rw [HH11.out] at this; omega) (by have h1 := HT10.out.size; have h2 := HS3.out; have h3 := congrArg Array.size HH11.out; have h4 := HRW.out; have h5 := HB5.out.size; simp; omega)).mono ?_; rintro e w13 ⟨v13, rfl, hq13, hg13, hat13⟩; have HQ13 := Lib.hid hq13; have HG13 := Lib.hid hg13; have HAT13 := Lib.hid hat13; clear hq13 hg13 hat13))
                  have hg11 := HW11.out.size
                  have hg10 := HT10.out.size
                  have hga : w11.grownBy w13 _ := (World.grownBy_alloc w11 _ _).trans HG13.out
                  have h13s := hga.size
                  have hks : ∀ g', g' < wr.heap.size → g' ≠ w.heap.size → Value.ownBlock u4 ≠ some g' → w13.heap[g']? = wr.heap[g']? := fun g' h1 h2 h3 => (hga.block g' (by omega) (fun e => h3 e.symm)).trans ((show w11.heap[g']? = w10.heap[g']? by rw [HH11.out]).trans (HT10.out.block g' h1 (fun e => h2 (Option.some.inj e))))
                  have hw5 := HB5.out.size
                  have hrw := HRW.out
                  have hs3 := HS3.out
                  have hbs : ∀ g', Value.ownBlock u4 = some g' → w.heap.size < g' := fun g' hg => by have := (HQ3.out.lt hg).2.1; omega
                  refine ⟨⟨k + 1, insR q R, by omega, by go_num, HQ13.out, insR_rising HRS.out HQR.out, fun x => ?_, ?_, fun g' h1 h2 => ?_, ?_, fun g' hg => ?_, ?_, by omega⟩, by simp [intOf]; omega⟩
                  · rw [mem_insR, HRM.out x, HTK.out, List.mem_append, List.mem_singleton]
                    constructor
                    · rintro (rfl | h | h)
                      · exact .inr ⟨.inr rfl, HUN.out.symm⟩
                      · exact .inl h
                      · exact .inr ⟨.inl h.1, h.2⟩
                    · rintro (h | ⟨h | rfl, h2⟩)
                      · exact .inr (.inl h)
                      · exact .inr (.inr ⟨h, h2⟩)
                      · exact .inl rfl
                  · exact HU10.out.keep ((hga.block _ (by have := HU3.out.lt; omega) (fun e => by have := hbs _ e.symm; omega)).trans (show w11.heap[w.heap.size]? = w10.heap[w.heap.size]? by rw [HH11.out]))
                  · refine (hks g' (by omega) (by omega) (fun e => ?_)).trans (HKK.out g' h1 h2)
                    rcases (HAP3.out g' e).1 with h | h <;> omega
                  · exact own_kept HO3.out (fun g' hg => hks g' (own_lt HO3.out hg).1 (by have := (own_lt HO3.out hg).2.1; omega) (fun e => (HAP3.out g' e).2 hg))
                  · rcases HAT13.out g' hg with h | h
                    · exact HAP3.out g' h
                    · have h' : wr.heap.size ≤ g' := by simp at h; omega
                      exact ⟨.inr (by omega), fun e => by have := (own_lt HO3.out e).1; omega⟩
                  · exact ((HB3.out.grown HT10.out HB3.out.size (fun j hj => by have := Option.some.inj hj; omega)).grown HW11.out (by omega) (fun j hj => by cases hj)).grown hga (by omega) (fun j hj => by have := hbs j hj; omega)
                · have hu1 : ¬ ((u : Int) = 0) := by omega
                  clear hu0
                  go_wp2_with (at_mapUpdate; refine wpList_mapUpdate_F _ rfl _ _ _ 70 rfl 9 3 Try.underlying9 Try.underlying70 w.heap.size D.length (unK es T a (M.take k)) rfl HU3.out HDL.out q HQX.out (.int .i64 (u : Nat)) rfl rfl ?_; intro w10 hm10 ht10; rw [HUNK.out] at hm10; have hm10b := hm10.same (g := unK es T a (M.take (k + 1))) (fun x => by rw [HPUT.out x, ← HUN.out]); have hlk2 := hm10b.lookup Try.underlying9 Try.underlying70 (zeroI w10) HQX.out; rw [HPUT.out q, ← HUN.out] at hlk2; simp only [putF, if_true, Option.getD_some] at hlk2; have HU10 := Lib.hid hm10b; have HT10 := Lib.hid ht10.grown; have HQ10 := Lib.hid (HQ3.out.keep (w' := w10) (fun g' hg => ht10.grown.block g' (HQ3.out.lt hg).1 (fun e => by have := (HQ3.out.lt hg).2.1; have := Option.some.inj e; have := HRW.out; omega))); clear hm10 hm10b ht10)
                  have hg10 := HT10.out.size
                  have hw5 := HB5.out.size
                  have hrw := HRW.out
                  have hs3 := HS3.out
                  refine ⟨⟨k + 1, R, by omega, by go_num, HQ10.out, HRS.out, fun x => ?_, HU10.out, fun g' h1 h2 => ?_, ?_, fun g' hg => HAP3.out g' hg, ?_, by omega⟩, by simp [intOf]; omega⟩
                  · rw [HRM.out x, HTK.out, List.mem_append, List.mem_singleton]
                    constructor
                    · rintro (h | h)
                      · exact .inl h
                      · exact .inr ⟨.inl h.1, h.2⟩
                    · rintro (h | ⟨h | rfl, h2⟩)
                      · exact .inl h
                      · exact .inr ⟨h, h2⟩
                      · rw [← HUN.out] at h2; exact absurd (by omega) hu1
                  · exact (HT10.out.block g' (by omega) (fun e => by have := Option.some.inj e; omega)).trans (HKK.out g' h1 h2)
                  · exact own_kept HO3.out (fun g' hg => HT10.out.block g' (own_lt HO3.out hg).1 (fun e => by have := (own_lt HO3.out hg).2.1; have := Option.some.inj e; omega))
                  · exact HB3.out.grown HT10.out HB3.out.size (fun j hj => by have := Option.some.inj hj; omega)
              · obtain rfl : k = M.length := by omega
                clear hq hRs hRm hu hkk ho hap hbw hs
                go_wp2
                go_roundw
                case rel =>
                  refine ⟨T ++ [a], ?_, by simpa using HO3.out, ?_, told_step GT.out HRD.out, closed_step HCL.out HRD.out, ?_, HKK.out, fun g' hg => HAP3.out g' hg, HB3.out, HS3.out⟩
                  · rw [← ready_step HOK.out HCO.out HCL.out HRD.out HRS.out (fun x => by rw [HRM.out x, List.take_length, HMM.out])]
                    exact HQ3.out
                  · refine HU3.out.same (fun x => ?_)
                    rw [List.take_length, HMM.out]
                    exact unK_all HCO.out x
                  · rw [← order_step (told_step GT.out HRD.out) HRD.out]; exact HGO.out
                case measure =>
                  have h1 := (told_step GT.out HRD.out).len
                  rw [List.length_append, List.length_singleton] at h1
                  show es.length - (T.length + 1) < es.length - T.length
                  omega
          · have hq1n : ¬ qc = 1 := by omega
            have HTL := Lib.hid (fun (W : World) (h9 : QR W 9 (r + 1) (.slice (some ⟨g, off, none⟩) (a :: rest).length qc) (a :: rest)) => h9.tail)
            go_wp2_with (at_builtin; refine wpList_append_own_at _ rfl _ _ 30 rfl w5.heap.size 9 i0 (.string ⟨#[]⟩) 1 16 Try.underlying30 I0.out Z0.out Z1.out Z2.out rfl (by decide) _ T.length (T.map Value.string) rfl (HOWNT.out.alloc _) ⟨wr.heap.size, 0, none⟩ 1 1 [.string a] rfl rfl (one_new wr 9 a) (one_str1 a) H1.out H2.out (by have := HHS.out; simp; omega) ?_; intro v9 w9 ho9 hg9 _ hat9; have hga : wr.grownBy w9 (Value.ownBlock (.slice pv T.length cv)) := (World.grownBy_alloc wr _ _).trans hg9; have hn2 : ∀ g, (Value.slice pv T.length cv).ownBlock = some g → w5.heap.size ≤ g := fun g hg => (own_lt HOWNT.out hg).2.1; have hk9 : ∀ g, w4.heap.size ≤ g → g < w5.heap.size → w9.heap[g]? = w5.heap[g]? := fun g h1 h2 => (hga.block g (by have := HHS.out; omega) (fun e => by have := hn2 g e.symm; omega)).trans (HK.out g h1 h2); have hlk := (HCH5.out.map.keep (w' := w9) (hk9 _ (Nat.le_refl _) h54)).lookup Try.underlying9 Try.underlying54 (zeroS w9) HAL.out; rw [← HV0.out] at hlk; obtain ⟨p9, c9, rfl, _⟩ := rowS_form ho9; have HO9 := Lib.hid ho9; have HGA := Lib.hid hga; have HAT9 := Lib.hid hat9; have HK9 := Lib.hid hk9; clear ho9 hga hg9 hat9 hk9 hn2)
            have HG9 := Lib.hid (show w9.heap[g]? = wr.heap[g]? from HGA.out.block g HGR.out.1 (fun e => HGAP.out.2 e.symm))
            have hgs := HGA.out.size
            have HU9 := Lib.hid ((HU.out.keep (w' := w9) (HGA.out.block _ HU.out.lt (fun e => by have := (own_lt HOWNT.out e.symm).2.1; have := HB5.out.size; omega))).same (g := unK es T a []) (fun x => unK_nil x))
            have hq9 := HTL.out w9 (HQ.out.keep (w' := w9) (fun g' hg => by obtain rfl := HG.out g' hg; exact HG9.out))
            have h9o : ∀ g', Value.ownBlock (.slice p9 (T.length + 1) c9) = some g' → g' ≠ g := fun g' hg e => by
              rcases HAT9.out with e2 | e2
              · exact HGAP.out.2 (by rw [← e]; exact (show Value.ownBlock (.slice p9 (T.length + 1) c9) = Value.ownBlock (.slice pv T.length cv) from e2) ▸ hg)
              · rw [e2] at hg; have := Option.some.inj hg; have := HGR.out.1; simp at *; omega
            have HQ9 := Lib.hid hq9
            have H9O := Lib.hid h9o
            have HB9 := Lib.hid (show Below w.heap.size w w9 from HBT.out.grown HGA.out HBT.out.size (fun j hj => by have := (own_lt HOWNT.out hj).2.1; have := HB5.out.size; omega))
            have HRR := Lib.hid (by have := ready_rising es T; rw [HRD.out] at this; exact this : Rising (a :: rest))
            have hR0 := HRR.out.tail
            clear hq9 h9o
            have HR0 := Lib.hid hR0
            clear hR0
            rename World => wi0
            go_loopw [4, 54] (fun v4 j wi => ∃ k R, k ≤ M.length ∧ j = .int .i64 (k : Nat) ∧ QR wi 9 (r + 1) v4 R ∧ Rising R ∧ (∀ x, x ∈ R ↔ x ∈ rest ∨ (x ∈ M.take k ∧ untoldN es (T ++ [a]) x = 0)) ∧ MapF Try.prog 9 wi w.heap.size D.length (unK es T a (M.take k)) ∧ (∀ g, w4.heap.size ≤ g → g < w5.heap.size → wi.heap[g]? = w5.heap[g]?) ∧ wi.ownsRow w5.heap.size 9 1 (.slice p9 (T.length + 1) c9) (T.length + 1) (T.map Value.string ++ [.string a]) ∧ (∀ g, v4.ownBlock = some g → (g < w4.heap.size ∨ w5.heap.size ≤ g) ∧ Value.ownBlock (.slice p9 (T.length + 1) c9) ≠ some g) ∧ Below w.heap.size w wi ∧ w5.heap.size ≤ wi.heap.size) (fun _ j _ => M.length - (intOf j).toNat)
            case atStart => exact ⟨0, rest, Nat.zero_le _, rfl, by rw [HN4.out]; exact HQ9.out, HR0.out, fun x => by simp, HU9.out, HK9.out, HO9.out, fun g' hg => by
              obtain rfl : g' = g := by have : g = g' := by simpa [Value.ownBlock] using hg
                                        exact this.symm
              exact ⟨HGAP.out.1, fun e => H9O.out _ e rfl⟩, HB9.out, by have := HHS.out; omega⟩
            case round =>
              obtain ⟨k, R, hk, rfl, hq, hRs, hRm, hu, hkk, ho, hap, hbw, hs⟩ := hrel
              have HQ3 := Lib.hid hq
              have HRS := Lib.hid hRs
              have HRM := Lib.hid hRm
              have HU3 := Lib.hid hu
              have HKK := Lib.hid hkk
              have HO3 := Lib.hid ho
              have HAP3 := Lib.hid hap
              have HB3 := Lib.hid hbw
              have HS3 := Lib.hid hs
              by_cases hlt : k < M.length
              · have hqm : M[k] ∈ M := List.getElem_mem hlt
                have hpar := HMI.out _ hqm
                have hthere := parE_there hpar
                have hnt := getE_not_take HMN.out hlt
                have HTK := Lib.hid (List.take_succ_eq_append_getElem hlt)
                have hroww := own_kept HROW.out (w' := wr) (fun g' hg => hkk g' (own_lt HROW.out hg).2.1 (own_lt HROW.out hg).1)
                obtain ⟨gC, rfl⟩ := HPC.out (by omega)
                have ck := (ownS_cell hroww k (by omega)).1
                rw [List.getElem?_map, List.getElem?_eq_getElem hlt, Option.map_some] at ck
                have hqx : M[k].size ≤ maxLen := by
                  obtain ⟨e, he, e2⟩ := List.mem_map.1 (lookE_isSome.1 hthere)
                  have := HOK.out.size e he
                  rw [← e2]; unfold maxLen; omega
                have hcount := told_child HOK.out hpar HAT.out
                have hunk := unK_new (T := T) (a := a) hthere hnt
                have hRl : R.length ≤ 300 := Nat.le_trans (GoodL.len (es := es) ⟨hRs.nodup, fun x hx => by
                  rcases (hRm x).1 hx with h | h
                  · exact (ready_good es T).2 x (by rw [HRD.out]; exact List.mem_cons_of_mem _ h)
                  · exact parE_there (HMI.out x (List.mem_of_mem_take h.1))⟩) HOK.out.len
                have hqR : M[k] ∉ R := fun h => by
                  rcases (hRm _).1 h with h | h
                  · have := (Go.Pal.mem_ready.1 (show M[k] ∈ readyL es T by rw [HRD.out]; exact List.mem_cons_of_mem _ h)).2.2
                    omega
                  · exact hnt h.1
                have hul : untoldN es (T ++ [a]) M[k] ≤ 1000000 := Nat.le_trans (List.length_filter_le _ _) (HOK.out.parLen _)
                have hlk1 := hu.lookup Try.underlying9 Try.underlying70 (zeroI wr) hqx
                rw [hunk, Option.getD_some, hcount] at hlk1
                have hput := fun x => unK_put (T := T) (a := a) (S := M.take k) hthere x
                rw [← HTK.out] at hput
                have HPUT := Lib.hid hput
                have HTH := Lib.hid hthere
                have HNT := Lib.hid hnt
                have HUNK := Lib.hid hunk
                have HQX := Lib.hid hqx
                have HQR := Lib.hid hqR
                have HRL := Lib.hid hRl
                clear hq hRs hRm hu hkk ho hap hbw hs hqm hpar hthere hnt hroww hqx hcount hunk hRl hqR hput
                generalize M[k] = q at *
                obtain ⟨u, hu⟩ : ∃ u, u = untoldN es (T ++ [a]) q := ⟨_, rfl⟩
                rw [← hu] at hlk1 hul
                have HUN := Lib.hid hu
                obtain ⟨m, hm⟩ : ∃ m : Int, m = ((u + 1 : Nat) : Int) := ⟨_, rfl⟩
                have hw : IntKind.i64.wrap (m - 1) = (u : Int) := by rw [hm]; rw [show ((u + 1 : Nat) : Int) - 1 = (u : Int) by omega]; rw [IntKind.wrap_i64]; omega
                have HM1 := Lib.hid hm
                rw [← hm] at hlk1
                have HDL := Lib.hid (show D.length < maxLen by unfold maxLen; omega)
                clear hm hu hul
                by_cases hu0 : u = 0
                · subst hu0
                  have hw0 : IntKind.i64.wrap (m - 1) = 0 := hw
                  clear hw
                  go_wp2_with (first
                    | (at_mapUpdate; refine wpList_mapUpdate_F _ rfl _ _ _ 70 rfl 9 3 Try.underlying9 Try.underlying70 w.heap.size D.length (unK es T a (M.take k)) rfl HU3.out HDL.out q HQX.out (.int .i64 0) rfl rfl ?_; intro w10 hm10 ht10; rw [HUNK.out] at hm10; have hm10b := hm10.same (g := unK es T a (M.take (k + 1))) (fun x => by rw [HPUT.out x, ← HUN.out]; rfl); have hlk2 := hm10b.lookup Try.underlying9 Try.underlying70 (zeroI w10) HQX.out; rw [HPUT.out q, ← HUN.out] at hlk2; simp only [putF, if_true, Option.getD_some] at hlk2; have HU10 := Lib.hid hm10b; have HT10 := Lib.hid ht10.grown; have HQ10 := Lib.hid (HQ3.out.keep (w' := w10) (fun g' hg => ht10.grown.block g' (HQ3.out.lt hg).1 (fun e => by have := (HQ3.out.lt hg).2.1; have := Option.some.inj e; have := HRW.out; omega))); clear hm10 hm10b ht10)
                    | (go_at_call 42; refine (bs_call HQ10.out (by have := HRL.out; omega) HRS.out q).mono ?_; rintro e w11 ⟨fd, rfl, qn, hw11⟩; have HH11 := Lib.hid (show w11.heap = w10.heap by rw [hw11]; rfl); have HW11 := Lib.hid (show w10.grownBy w11 none by rw [hw11]; exact ⟨rfl, rfl, rfl, Nat.le_refl _, fun _ _ _ => rfl⟩); clear hw11)
                    | (go_at_call 43; refine (ins_call (w := w11.alloc (.cells #[.string q] 9)) (base := r + 1) (l := R) ((HQ10.out.keep (w' := w11) (fun g' hg => by rw [HH11.out])).keep (fun g' hg => heap_alloc_old _ _ (by rw [HH11.out]; exact (HQ10.out.lt hg).1))) (by have := HRL.out; omega) q (vb := w11.heap.size) (vc := 1) (heap_alloc_new _ _) (fun e => by have := (HQ10.out.lt e).1; rw [HH11.out] at this; omega) (by have h1 := HT10.out.size; have h2 := HS3.out; have h3 := congrArg Array.size HH11.out; have h4 := HRW.out; have h5 := HB5.out.size; simp; omega)).mono ?_; rintro e w13 ⟨v13, rfl, hq13, hg13, hat13⟩; have HQ13 := Lib.hid hq13; have HG13 := Lib.hid hg13; have HAT13 := Lib.hid hat13; clear hq13 hg13 hat13))
                  have hg11 := HW11.out.size
                  have hg10 := HT10.out.size
                  have hga : w11.grownBy w13 _ := (World.grownBy_alloc w11 _ _).trans HG13.out
                  have h13s := hga.size
                  have hks : ∀ g', g' < wr.heap.size → g' ≠ w.heap.size → Value.ownBlock u4 ≠ some g' → w13.heap[g']? = wr.heap[g']? := fun g' h1 h2 h3 => (hga.block g' (by omega) (fun e => h3 e.symm)).trans ((show w11.heap[g']? = w10.heap[g']? by rw [HH11.out]).trans (HT10.out.block g' h1 (fun e => h2 (Option.some.inj e))))
                  have hw5 := HB5.out.size
                  have hrw := HRW.out
                  have hs3 := HS3.out
                  have hbs : ∀ g', Value.ownBlock u4 = some g' → w.heap.size < g' := fun g' hg => by have := (HQ3.out.lt hg).2.1; omega
                  refine ⟨⟨k + 1, insR q R, by omega, by go_num, HQ13.out, insR_rising HRS.out HQR.out, fun x => ?_, ?_, fun g' h1 h2 => ?_, ?_, fun g' hg => ?_, ?_, by omega⟩, by simp [intOf]; omega⟩
                  · rw [mem_insR, HRM.out x, HTK.out, List.mem_append, List.mem_singleton]
                    constructor
                    · rintro (rfl | h | h)
                      · exact .inr ⟨.inr rfl, HUN.out.symm⟩
                      · exact .inl h
                      · exact .inr ⟨.inl h.1, h.2⟩
                    · rintro (h | ⟨h | rfl, h2⟩)
                      · exact .inr (.inl h)
                      · exact .inr (.inr ⟨h, h2⟩)
                      · exact .inl rfl
                  · exact HU10.out.keep ((hga.block _ (by have := HU3.out.lt; omega) (fun e => by have := hbs _ e.symm; omega)).trans (show w11.heap[w.heap.size]? = w10.heap[w.heap.size]? by rw [HH11.out]))
                  · refine (hks g' (by omega) (by omega) (fun e => ?_)).trans (HKK.out g' h1 h2)
                    rcases (HAP3.out g' e).1 with h | h <;> omega
                  · exact own_kept HO3.out (fun g' hg => hks g' (own_lt HO3.out hg).1 (by have := (own_lt HO3.out hg).2.1; omega) (fun e => (HAP3.out g' e).2 hg))
                  · rcases HAT13.out g' hg with h | h
                    · exact HAP3.out g' h
                    · have h' : wr.heap.size ≤ g' := by simp at h; omega
                      exact ⟨.inr (by omega), fun e => by have := (own_lt HO3.out e).1; omega⟩
                  · exact ((HB3.out.grown HT10.out HB3.out.size (fun j hj => by have := Option.some.inj hj; omega)).grown HW11.out (by omega) (fun j hj => by cases hj)).grown hga (by omega) (fun j hj => by have := hbs j hj; omega)
                · have hu1 : ¬ ((u : Int) = 0) := by omega
                  clear hu0
                  go_wp2_with (at_mapUpdate; refine wpList_mapUpdate_F _ rfl _ _ _ 70 rfl 9 3 Try.underlying9 Try.underlying70 w.heap.size D.length (unK es T a (M.take k)) rfl HU3.out HDL.out q HQX.out (.int .i64 (u : Nat)) rfl rfl ?_; intro w10 hm10 ht10; rw [HUNK.out] at hm10; have hm10b := hm10.same (g := unK es T a (M.take (k + 1))) (fun x => by rw [HPUT.out x, ← HUN.out]); have hlk2 := hm10b.lookup Try.underlying9 Try.underlying70 (zeroI w10) HQX.out; rw [HPUT.out q, ← HUN.out] at hlk2; simp only [putF, if_true, Option.getD_some] at hlk2; have HU10 := Lib.hid hm10b; have HT10 := Lib.hid ht10.grown; have HQ10 := Lib.hid (HQ3.out.keep (w' := w10) (fun g' hg => ht10.grown.block g' (HQ3.out.lt hg).1 (fun e => by have := (HQ3.out.lt hg).2.1; have := Option.some.inj e; have := HRW.out; omega))); clear hm10 hm10b ht10)
                  have hg10 := HT10.out.size
                  have hw5 := HB5.out.size
                  have hrw := HRW.out
                  have hs3 := HS3.out
                  refine ⟨⟨k + 1, R, by omega, by go_num, HQ10.out, HRS.out, fun x => ?_, HU10.out, fun g' h1 h2 => ?_, ?_, fun g' hg => HAP3.out g' hg, ?_, by omega⟩, by simp [intOf]; omega⟩
                  · rw [HRM.out x, HTK.out, List.mem_append, List.mem_singleton]
                    constructor
                    · rintro (h | h)
                      · exact .inl h
                      · exact .inr ⟨.inl h.1, h.2⟩
                    · rintro (h | ⟨h | rfl, h2⟩)
                      · exact .inl h
                      · exact .inr ⟨h, h2⟩
                      · rw [← HUN.out] at h2; exact absurd (by omega) hu1
                  · exact (HT10.out.block g' (by omega) (fun e => by have := Option.some.inj e; omega)).trans (HKK.out g' h1 h2)
                  · exact own_kept HO3.out (fun g' hg => HT10.out.block g' (own_lt HO3.out hg).1 (fun e => by have := (own_lt HO3.out hg).2.1; have := Option.some.inj e; omega))
                  · exact HB3.out.grown HT10.out HB3.out.size (fun j hj => by have := Option.some.inj hj; omega)
              · obtain rfl : k = M.length := by omega
                clear hq hRs hRm hu hkk ho hap hbw hs
                go_wp2
                go_roundw
                case rel =>
                  refine ⟨T ++ [a], ?_, by simpa using HO3.out, ?_, told_step GT.out HRD.out, closed_step HCL.out HRD.out, ?_, HKK.out, fun g' hg => HAP3.out g' hg, HB3.out, HS3.out⟩
                  · rw [← ready_step HOK.out HCO.out HCL.out HRD.out HRS.out (fun x => by rw [HRM.out x, List.take_length, HMM.out])]
                    exact HQ3.out
                  · refine HU3.out.same (fun x => ?_)
                    rw [List.take_length, HMM.out]
                    exact unK_all HCO.out x
                  · rw [← order_step (told_step GT.out HRD.out) HRD.out]; exact HGO.out
                case measure =>
                  have h1 := (told_step GT.out HRD.out).len
                  rw [List.length_append, List.length_singleton] at h1
                  show es.length - (T.length + 1) < es.length - T.length
                  omega
    · intro s v w3 cnt1 hsz hls hfs hr3 hlt hg3 hs3 hen
      have HTH := Lib.hid (show (lookE es s).isSome = true from by rw [← mapE_some es mv s, hfs]; rfl)
      obtain ⟨a, cap, hva, hrow⟩ := HD.out.par s
      rw [hfs] at hva
      obtain rfl : v = .slice a (parE es s).length cap := hva
      have hgD : GoodL es D := ⟨HDN.out, fun x hx => ((HDM.out x).1 hx).1⟩
      have hlD : D.length ≤ 300 := Nat.le_trans hgD.len HOK.out.len
      have hgH : GoodL es H := ⟨HND.out, fun x hx => hgD.2 x ((HMEM.out x).1 hx).1⟩
      have hlH : H.length ≤ 300 := Nat.le_trans hgH.len HOK.out.len
      have hsD : s ∉ D := fun hh => by
        have := ((HDM.out s).1 hh).2
        rw [hls] at this; cases this
      have HSD := Lib.hid hsD
      have HU3 := Lib.hid (HUU.out.keep (w' := w3) (hg3.block _ HUU.out.lt (fun e => by have := HRW.out; have := Option.some.inj e; omega)))
      have HOWN3 := Lib.hid (own_kept HOWN.out (w' := w3) (fun g hg => hg3.block g (own_lt HOWN.out hg).1 (fun e => by have := Option.some.inj e; have := (own_lt HOWN.out hg).2.1; omega)))
      have HB3 := Lib.hid (show Below w.heap.size w w3 from HB.out.grown hg3 (by omega) (fun j hj => by have := Option.some.inj hj; have := HRW.out; omega))
      have HR3 := Lib.hid hr3
      have HLT := Lib.hid hlt
      have hrl3 : r < w3.heap.size := by omega
      have H1 := Lib.hid (show H.length + 1 ≤ maxLen by unfold maxLen; omega)
      have H2 := Lib.hid (show (H.length + 1) * 16 ≤ 140737488355328 by omega)
      have HDL := Lib.hid (show D.length < maxLen by unfold maxLen; omega)
      obtain ⟨n, hn⟩ : ∃ n, n = (parE es s).length := ⟨_, rfl⟩
      have HN := Lib.hid hn
      have HSZ := Lib.hid hsz
      rw [← hn] at hen ⊢
      have HLS := Lib.hid hls
      clear hls hfs hr3 hlt hg3 hgD hlD hgH hlH hsD hrow hn hsz hs3
      by_cases hn0 : n = 0
      · subst hn0
        go_wp2_with (first
          | (at_mapUpdate; refine wpList_mapUpdate_F _ rfl _ _ _ 70 rfl 9 3 Try.underlying9 Try.underlying70 w.heap.size D.length (untF es D) rfl HU3.out HDL.out s HSZ.out (.int .i64 0) rfl rfl ?_; intro w5 hm5 ht5; have O5 := Lib.hid (own_kept HOWN3.out (w' := w5) (fun g hg => ht5.grown.block g (own_lt HOWN3.out hg).1 (fun e => by have := (own_lt HOWN3.out hg).2.1; have := Option.some.inj e; have := HRW.out; omega))))
          | (at_builtin; refine wpList_append_own _ rfl _ _ 30 rfl (r + 1) 9 i0 (.string ⟨#[]⟩) 1 16 Try.underlying30 I0.out Z0.out Z1.out Z2.out rfl (by decide) _ H.length (H.map Value.string) rfl (O5.out.alloc _) ⟨w5.heap.size, 0, none⟩ 1 1 [.string s] rfl rfl (one_new w5 9 s) (one_str1 s) H1.out H2.out (by have := ht5.grown.size; simp; omega) ?_; intro v9 w9 ho9 hg9 _))
        have hg5 := ht5.grown
        have hga := (World.grownBy_alloc w5 (.cells #[.string s] 9) _).trans hg9
        have hown2 : ∀ g, Value.ownBlock _ = some g → r + 1 ≤ g := fun g hg => (own_lt O5.out hg).2.1
        have h5s := hg5.size
        have h9s := hga.size
        have hbW : b < w.heap.size := hbl
        have hrw := HRW.out
        have hlow : ∀ k, k < r + 1 → k ≠ w.heap.size → w9.heap[k]? = w3.heap[k]? := fun k hk hk2 => (hga.block k (by omega) (fun e => by have := hown2 k e.symm; omega)).trans (hg5.block k (by omega) (fun e => hk2 (Option.some.inj e)))
        have hR9 := HR3.out.keep (w' := w9) (hlow b (by omega) (by omega)) (hlow r (by omega) (by omega))
        have hno : (untF es D s).isSome = false := by unfold untF; rw [memF.2 HSD.out]; rfl
        rw [hno] at hm5
        refine ⟨⟨_, cnt1, D ++ [s], H ++ [s], hR9, ?_, ?_, fun x => ?_, by simpa using ho9, ?_, fun x => ?_, ?_, by omega⟩, by rw [HR.out.left_eq, hR9.left_eq]; exact HLT.out⟩
        · have := (hm5.keep (w' := w9) (hga.block _ (by omega) (fun e => by have := hown2 _ e.symm; omega))).same (g := untF es (D ++ [s])) (fun x => by rw [untF_put, ← HN.out]; rfl)
          simpa using this
        · exact List.nodup_append.2 ⟨HDN.out, by simp, fun a1 ha c hc => by rw [List.mem_singleton.1 hc]; exact fun e => HSD.out (e ▸ ha)⟩
        · rw [List.mem_append, HDM.out x, List.mem_singleton]
          by_cases e : x = s
          · subst e; simp [HTH.out]
          · simp [e]
        · exact List.nodup_append.2 ⟨HND.out, by simp, fun a1 ha c hc => by rw [List.mem_singleton.1 hc]; exact fun e => HSD.out (e ▸ ((HMEM.out a1).1 ha).1)⟩
        · rw [List.mem_append, List.mem_append, HMEM.out x, List.mem_singleton]
          have hps : parE es s = [] := List.eq_nil_of_length_eq_zero HN.out.symm
          by_cases e : x = s
          · subst e; simp [hps]
          · simp [e]
        · exact (HB3.out.grown hg5 (by omega) (fun j hj => by have := Option.some.inj hj; omega)).grown hga (by omega) (fun j hj => by have := hown2 j hj; omega)
      · go_wp2_with (at_mapUpdate; refine wpList_mapUpdate_F _ rfl _ _ _ 70 rfl 9 3 Try.underlying9 Try.underlying70 w.heap.size D.length (untF es D) rfl HU3.out HDL.out s HSZ.out (.int .i64 (n : Nat)) rfl rfl ?_; intro w5 hm5 ht5)
        have hg5 := ht5.grown
        have h5s := hg5.size
        have hbW : b < w.heap.size := hbl
        have hrw := HRW.out
        have O5 := own_kept HOWN3.out (w' := w5) (fun g hg => hg5.block g (own_lt HOWN3.out hg).1 (fun e => by have := (own_lt HOWN3.out hg).2.1; have := Option.some.inj e; omega))
        have hlow : ∀ k, k < r + 1 → k ≠ w.heap.size → w5.heap[k]? = w3.heap[k]? := fun k hk hk2 => hg5.block k (by omega) (fun e => hk2 (Option.some.inj e))
        have hR9 := HR3.out.keep (w' := w5) (hlow b (by omega) (by omega)) (hlow r (by omega) (by omega))
        have hno : (untF es D s).isSome = false := by unfold untF; rw [memF.2 HSD.out]; rfl
        rw [hno] at hm5
        refine ⟨⟨_, cnt1, D ++ [s], H, hR9, ?_, ?_, fun x => ?_, O5, HND.out, fun x => ?_, ?_, by omega⟩, by rw [HR.out.left_eq, hR9.left_eq]; exact HLT.out⟩
        · have := hm5.same (g := untF es (D ++ [s])) (fun x => by rw [untF_put, ← HN.out])
          simpa using this
        · exact List.nodup_append.2 ⟨HDN.out, by simp, fun a1 ha c hc => by rw [List.mem_singleton.1 hc]; exact fun e => HSD.out (e ▸ ha)⟩
        · rw [List.mem_append, HDM.out x, List.mem_singleton]
          by_cases e : x = s
          · subst e; simp [HTH.out]
          · simp [e]
        · rw [List.mem_append, HMEM.out x, List.mem_singleton]
          have hps : parE es s ≠ [] := fun e => hn0 (by rw [HN.out, e]; rfl)
          by_cases e : x = s
          · subst e; simp [hps]
          · simp [e]
        · exact HB3.out.grown hg5 (by omega) (fun j hj => by have := Option.some.inj hj; omega)
end Go.Proofs.Ytabongfoeoideaa
