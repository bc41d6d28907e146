/-
  Layer 12: Copy.
-/
import Derived.Test.YtabongfoeoideaaDgb
import Derived.Test.YtabongfoeoideaaDg8
import Derived.Deep.RegionHeld3
import Derived.Deep.RegionLaw
namespace Go.Pal
open Go.RowKit
theorem look_mem {es : List (ByteArray × List ByteArray)} (hn : (es.map Prod.fst).Nodup) {e : ByteArray × List ByteArray} (he : e ∈ es) : lookE es e.1 = some e := by
  induction es with
  | nil => cases he
  | cons x r ih =>
    have hd := List.nodup_cons.1 hn
    unfold lookE
    rw [List.find?_cons]
    rcases List.mem_cons.1 he with rfl | he
    · simp
    · have hne : ¬ x.1 = e.1 := fun h => hd.1 (h ▸ List.mem_map_of_mem he)
      simp only [hne, decide_false]
      exact ih hd.2 he
theorem ent_mem {es : List (ByteArray × List ByteArray)} {s : ByteArray} (h : (lookE es s).isSome = true) : entOf s (parE es s) ∈ es := by
  unfold parE entOf
  cases hl : lookE es s with
  | none => rw [hl] at h; cases h
  | some e =>
    obtain ⟨he, rfl⟩ := lookE_some hl
    exact he
theorem ent_eq {es : List (ByteArray × List ByteArray)} (hn : (es.map Prod.fst).Nodup) {e : ByteArray × List ByteArray} (he : e ∈ es) : entOf e.1 (parE es e.1) = e := by
  unfold parE entOf
  rw [look_mem hn he]
end Go.Pal
namespace Go.Proofs.Ytabongfoeoideaa
open Go.RowKit Go.Pal Go.Shelf
set_option linter.unusedVariables false

theorem DagAt.perm {w : World} {base G : Nat} {m : Option Nat} {mv : ByteArray → Value} {es es' : List (ByteArray × List ByteArray)} (h : DagAt w base G m mv es') (hn : (es.map Prod.fst).Nodup) (hm : ∀ e, e ∈ es' ↔ e ∈ es) : DagAt w base G m mv es := by
  have hp : es'.Perm es := (List.perm_ext_iff_of_nodup (List.Pairwise.of_map Prod.fst (fun a b hab e => hab (congrArg Prod.fst e)) h.ids) (List.Pairwise.of_map Prod.fst (fun a b hab e => hab (congrArg Prod.fst e)) hn)).2 hm
  have hlook : ∀ s, lookE es s = lookE es' s := fun s => by
    cases hl : lookE es' s with
    | some e =>
      obtain ⟨he, rfl⟩ := lookE_some hl
      exact look_mem hn ((hm e).1 he)
    | none =>
      cases hl2 : lookE es s with
      | none => rfl
      | some e =>
        obtain ⟨he, rfl⟩ := lookE_some hl2
        rw [look_mem h.ids ((hm e).2 he)] at hl; cases hl
  refine ⟨h.blk, fun e => ?_, fun b hb => ⟨?_, (h.map b hb).2⟩, fun e he => h.each e ((hm e).2 he), hn, h.gbase⟩
  · have := h.empty e
    subst this
    exact List.nil_perm.1 hp
  · have := (h.map b hb).1
    rw [hp.length_eq] at this
    exact this.same (fun s => by unfold mapE; rw [hlook s])
set_option maxHeartbeats 1000000 in
theorem dcopy_nil (w : World) : Calls Try.prog 29 #[.pointer none] w fun e w' => e = .returned (.pointer none) ∧ w' = w := by
  go_enter Try.func29, Try.ntmps29
  go_wp2
  go_ret
  exact ⟨rfl, rfl⟩
set_option maxHeartbeats 4000000 in
set_option maxRecDepth 100000 in
theorem dcopy_some {w : World} {base G b : Nat} {mv : ByteArray → Value} {es : List (ByteArray × List ByteArray)} (h : DagAt w base G (some b) mv es) (hok : DagOk es) :
    Calls Try.prog 29 #[.pointer (some ⟨G, 0, none⟩)] w fun e w' => ∃ G' m' mv', e = .returned (.pointer (some ⟨G', 0, none⟩)) ∧ DagAt w' w.heap.size G' m' mv' es ∧ Below w.heap.size w w' := by
  have HD := Lib.hid h
  have HOK := Lib.hid hok
  have hmm := @run_makeMap Try.prog
  have HM0 := Lib.hid (h.map b rfl).1
  have hbl := (h.map b rfl).1.lt
  have hc0 : ∀ o o2, ((w.alloc o).alloc o2).cell? ⟨G, 0, none⟩ = some (.map (some b)) := fun o o2 => ((h.blk.alloc o).alloc o2).cell 0
  clear h hok
  go_enter Try.func29, Try.ntmps29
  go_wp2_with (at_range; refine wpList_range_F _ rfl _ 54 rfl 9 30 Try.underlying9 Try.underlying54 b es.length (mapE es mv) rfl ((HM0.out.keep (heap_alloc_old _ _ hbl)).keep (heap_alloc_old _ _ (by simp; omega))) ?_; intro w2 hr2 hg2 hz2)
  go_frame
  obtain ⟨r, hr⟩ : ∃ r, r = ((w.alloc (.map #[] 0)).alloc (.cells #[.map (some w.heap.size)] 56)).heap.size := ⟨_, rfl⟩
  rw [← hr] at hr2 ⊢
  have hrs : r = w.heap.size + 2 := by simpa using hr
  obtain ⟨g, hgg⟩ : ∃ g, g = w.heap.size + 1 := ⟨_, rfl⟩
  obtain ⟨c, hcc⟩ : ∃ c, c = w.heap.size := ⟨_, rfl⟩
  have HGG := Lib.hid hgg
  have HCC := Lib.hid hcc
  have HRS := Lib.hid hrs
  have HB0 := Lib.hid (show Below w.heap.size w w2 from (((Below.refl _ _).alloc (Nat.le_refl _) _).alloc (by simp) _).grown hg2 (by simp; omega) (fun j hj => by cases hj))
  have HR0 := Lib.hid (show r < w2.heap.size from by rw [hz2, ← hr]; omega)
  have HD0 := Lib.hid (show DagAt w2 w.heap.size g (some c) mv [] from ⟨by
    have hB := Blk.new' (w.alloc (.map #[] 0)) 56 [.map (some w.heap.size)] (n := g) (by rw [hgg]; simp)
    rw [hcc]
    exact hB.grown hg2 (by simp), fun _ => rfl, fun b' hb' => ⟨by
    cases hb'
    rw [hcc]
    exact ((MapF.made w Try.prog 9).keep ((hg2.block _ (by simp; omega) (by simp)).trans (heap_alloc_old _ _ (by simp)))).same (fun s => rfl), by cases hb'; omega⟩, fun e he => (by cases he), List.nodup_nil, by omega⟩)
  rw [← hgg, ← hcc]
  clear hr hgg hcc hrs hg2 hz2 hc0 hmm
  go_loopw [16] (fun _ wr => ∃ left cnt es' mv', RangeF Try.prog 9 wr b r es.length (mapE es mv) left cnt ∧ DagAt wr w.heap.size g (some c) mv' es' ∧ (∀ e, e ∈ es' ↔ e ∈ es ∧ left e.1 = false) ∧ Below w.heap.size w wr ∧ r < wr.heap.size) (fun _ wr => wr.rangeLeft b r)
  case atStart => exact ⟨_, _, [], mv, hr2, HD0.out, fun e => ⟨fun h => by (cases h), fun h => by
    have h2 := h.2
    rw [mapE_some, lookE_isSome.2 (List.mem_map_of_mem h.1)] at h2; cases h2⟩, HB0.out, HR0.out⟩
  case round =>
    obtain ⟨left, cnt, es', mv', hr1, hd, hmem, hbw, hrl⟩ := hrel
    have HR := Lib.hid hr1
    have HDD := Lib.hid hd
    have HMEM := Lib.hid hmem
    have HB := Lib.hid hbw
    clear hr1 hd hmem hbw hr2 HD0 HB0 HR0
    go_wp2_with (at_next; refine wpList_next_F _ rfl _ rfl 9 Try.underlying9 b r es.length (mapE es mv) left cnt rfl HR.out ?_ ?_)
    · intro hc0 hl0
      have HL0 := Lib.hid hl0
      clear hl0
      go_wp2
      go_ret
      exact ⟨g, _, mv', rfl, HDD.out.perm HD.out.ids (fun e => by rw [HMEM.out e, HL0.out]; simp), HB.out⟩
    · intro s v w3 cnt1 hsz hls hfs hr3 hlt hg3 hs3 hen
      have HTH := Lib.hid (show (lookE es s).isSome = true from by rw [← mapE_some es mv s, hfs]; rfl)
      obtain ⟨a, cap, hva, hrow⟩ := HD.out.par s
      rw [hfs] at hva
      obtain rfl : v = .slice a (parE es s).length cap := hva
      have HEM := Lib.hid (ent_mem HTH.out)
      have HEQ := Lib.hid (fun e (he : e ∈ es) (h1 : e.1 = s) => (show entOf s (parE es s) = e from by rw [← h1]; exact ent_eq HD.out.ids he))
      have HMS := Lib.hid (show ∀ x ∈ parE es s, x.size ≤ 281474976710656 from fun x hx => by have := (HOK.out.there hx).2.2; omega)
      have HML := Lib.hid (HOK.out.parLen s)
      have hs64 : s.size ≤ 64 := HOK.out.size _ HEM.out
      have hbase3 : Below w.heap.size w w3 := HB.out.grown hg3 HB.out.size (fun j hj => by have := Option.some.inj hj; have := HRS.out; omega)
      have HCP := Lib.hid (fun W (hb : Below w.heap.size w W) => dcopied_any (cap := cap) (hrow.below hb) HML.out HMS.out)
      have hd3 : DagAt w3 w.heap.size g (some c) mv' es' := HDD.out.keep fun x hx => hg3.block x (HDD.out.lt hx).1 (fun e => by
        have e2 := Option.some.inj e
        obtain ⟨q1, q2, q3, q4, hq⟩ := HR.out.obj
        rcases hx with rfl | hx | ⟨e1, he1, hx⟩
        · have := HRS.out; have := HGG.out; omega
        · have := Option.some.inj hx; have := HRS.out; have := HCC.out; omega
        · obtain ⟨_, _, cur, hcur⟩ := own_lt (HDD.out.each e1 he1) hx
          rw [e2, hq] at hcur; cases hcur)
      have hno : (lookE es' s).isSome = false := by
        cases hh : (lookE es' s).isSome with
        | false => rfl
        | true =>
          obtain ⟨e, he, e2⟩ := List.mem_map.1 (lookE_isSome.1 hh)
          have := ((HMEM.out e).1 he).2
          rw [e2, hls] at this; cases this
      have hlen : es'.length ≤ 300 := by
        have := sub_len (es'.map Prod.fst) (es.map Prod.fst) HDD.out.ids (fun x hx => by
          obtain ⟨e, he, rfl⟩ := List.mem_map.1 hx
          exact List.mem_map_of_mem ((HMEM.out e).1 he).1)
        simp only [List.length_map] at this
        exact Nat.le_trans this HOK.out.len
      have HLS := Lib.hid hls
      have HR3 := Lib.hid hr3
      have HLT := Lib.hid hlt
      have HD3 := Lib.hid hd3
      have HNO := Lib.hid hno
      have HB3 := Lib.hid hbase3
      have c1d : w3.drew.cell? ⟨g, 0, none⟩ = some (.map (some c)) := hd3.blk.cell 0
      have c1n : w3.cell? ⟨g, 0, none⟩ = some (.map (some c)) := hd3.blk.cell 0
      have hGl : g < w3.heap.size := hd3.blk.lt
      have hmb := (hd3.map c rfl).1
      have hmbl := hmb.lt
      have hGb : g ≠ c := by have := HGG.out; have := HCC.out; omega
      have HMB := Lib.hid hmb
      have HU := Lib.hid (fun W (hb : Below w3.heap.size w3 W) v => (show ∃ w', (Instr.mapUpdate 54 (.map (some c)) (.string s) v).run Try.prog W = .ok () w' ∧ MapF Try.prog 9 w' c (es'.length + 1) (putF (mapE es' mv') s v) ∧ W.mapTurned w' c from by
        have h9 := (HMB.out.keep (hb.block c hmbl)).update Try.underlying9 Try.underlying54 (by unfold maxLen; omega) (s := s) (by unfold maxLen; omega) v
        rw [mapE_some, HNO.out] at h9
        exact h9))
      have HCL := Lib.hid (fun W => clone_any s W (by omega))
      obtain ⟨M, hM⟩ : ∃ M, M = parE es s := ⟨_, rfl⟩
      rw [← hM] at HEM HEQ HMS HML HCP hen ⊢
      have HS3 := Lib.hid hs3
      have hrl3 : r < w3.heap.size := by omega
      clear hM hfs hr3 hlt hg3 hs3 hd3 hno hbase3 hmb hls hrow
      go_wp2
      go_region_held3 (fun w' => w'.cell? ⟨g, 0, none⟩ = some (.map (some c)))
        (first | with_reducible exact c1d | with_reducible exact c7 | exact (B6.cell (p := ⟨g, 0, none⟩) hGl).trans c1d | exact (B2.cell (p := ⟨g, 0, none⟩) hGl).trans c1d | go_keep)
        (first
          | (go_at_call 32; refine (HCP.out w4 (HB3.out.trans (B2.mono HB3.out.size))).mono ?_; rintro e6 w6 ⟨v6, rfl, O6, b6⟩; have B6 := B2.trans (b6.mono B2.size); obtain ⟨p6, c6, rfl, _⟩ := rowS_form O6; obtain ⟨w7, hrun7, hm7, ht7⟩ := HU.out w6 B6 (.slice p6 M.length c6); have c7 : w7.cell? ⟨g, 0, none⟩ = some (.map (some c)) := (World.cell?_of_block (a := ⟨g, 0, none⟩) (ht7.grown.block g (Nat.lt_of_lt_of_le hGl B6.size) (fun e => hGb (Option.some.inj e)))).trans ((B6.cell (p := ⟨g, 0, none⟩) hGl).trans c1d))
          | (go_at_call 36; refine (HCL.out _).mono ?_; rintro e4 w4 ⟨rfl, b2⟩; have B2 : Below w3.heap.size w3 w4 := ⟨b2.os, b2.tape, b2.output, b2.size, b2.block⟩))
      have HO6 := Lib.hid (own_base O6 (Nat.le_trans HB3.out.size B2.size))
      have HB6 := Lib.hid B6
      have HM7 := Lib.hid hm7
      have HT7 := Lib.hid ht7
      clear c7 O6 B6 hm7 ht7 B2 b6 b2 hrun7 c1d
      go_wp2
      have hD7 := HD3.out.add (ps := M) HB6.out HNO.out HM7.out HT7.out.grown HO6.out
      have hbw : b < w.heap.size := hbl
      have hR7 := HR3.out.keep (w' := w7) ((HT7.out.grown.block b (by have := HB6.out.size; have := HRS.out; omega) (fun e => by have := Option.some.inj e; have := HCC.out; omega)).trans (HB6.out.block b (by have := HRS.out; omega))) ((HT7.out.grown.block r (by have := HB6.out.size; omega) (fun e => by have := Option.some.inj e; have := HCC.out; have := HRS.out; omega)).trans (HB6.out.block r hrl3))
      refine ⟨⟨_, cnt1, _, _, hR7, hD7, fun e => ?_, ?_, ?_⟩, by rw [HR.out.left_eq, hR7.left_eq]; exact HLT.out⟩
      · rw [List.mem_append, HMEM.out e, List.mem_singleton]
        constructor
        · rintro (h | h)
          · exact ⟨h.1, by simp [h.2]⟩
          · rw [h]; exact ⟨HEM.out, by simp [entOf]⟩
        · rintro ⟨h1, h2⟩
          by_cases e2 : e.1 = s
          · exact .inr (HEQ.out e h1 e2).symm
          · exact .inl ⟨h1, by simpa [e2] using h2⟩
      · exact (HB3.out.trans (HB6.out.mono HB3.out.size)).grown HT7.out.grown (by have := HB3.out.size; have := HB6.out.size; omega) (fun j hj => by have := Option.some.inj hj; have := HCC.out; omega)
      · have := HT7.out.grown.size; have := HB6.out.size; omega
set_option maxHeartbeats 1000000 in
set_option maxRecDepth 100000 in
theorem dcopy_none {w : World} {base G : Nat} {mv : ByteArray → Value} {es : List (ByteArray × List ByteArray)} (h : DagAt w base G none mv es) :
    Calls Try.prog 29 #[.pointer (some ⟨G, 0, none⟩)] w fun e w' => ∃ G' m' mv', e = .returned (.pointer (some ⟨G', 0, none⟩)) ∧ DagAt w' w.heap.size G' m' mv' es ∧ Below w.heap.size w w' := by
  have hmm := @run_makeMap Try.prog
  have hc0 : ∀ o o2, ((w.alloc o).alloc o2).cell? ⟨G, 0, none⟩ = some (.map none) := fun o o2 => ((h.blk.alloc o).alloc o2).cell 0
  obtain rfl := h.empty rfl
  have hrg := fun W1 : World => run_range_nilMap (P := Try.prog) W1 54 9 30 Try.underlying54
  clear h
  go_enter Try.func29, Try.ntmps29
  go_wp2
  obtain ⟨W1, hW1⟩ : ∃ W1, W1 = (w.alloc (.map #[] 0)).alloc (.cells #[.map (some w.heap.size)] 56) := ⟨_, rfl⟩
  obtain ⟨W, hW⟩ : ∃ W, W = W1.alloc (.mapIter none 0 #[] 0) := ⟨_, rfl⟩
  have hnx := fun ty => run_next_nilMap (P := Try.prog) W1 ty 0 0 #[]
  have HB := Lib.hid (show Below w.heap.size w W by rw [hW, hW1]; exact (((Below.refl _ _).alloc (Nat.le_refl _) _).alloc (by simp) _).alloc (by simp; omega) _)
  have HD := Lib.hid (show DagAt W w.heap.size (w.heap.size + 1) (some w.heap.size) mv [] from ⟨by
    rw [hW, hW1]
    exact (Blk.new' (w.alloc (.map #[] 0)) 56 [.map (some w.heap.size)] (n := w.heap.size + 1) (by simp)).alloc _, fun _ => rfl, fun b' hb' => ⟨by
    cases hb'
    rw [hW, hW1]
    exact (((MapF.made w Try.prog 9).keep (heap_alloc_old _ _ (by simp))).keep (heap_alloc_old _ _ (by simp; omega))).same (fun s => rfl), by cases hb'; omega⟩, fun e he => (by cases he), List.nodup_nil, by omega⟩)
  rw [← hW1]
  rw [← hW] at hnx ⊢
  have hs1 : W1.heap.size = w.heap.size + 1 + 1 := by rw [hW1]; simp
  rw [hs1] at hnx
  obtain ⟨r, hr⟩ : ∃ r, r = w.heap.size + 1 + 1 := ⟨_, rfl⟩
  rw [← hr] at hnx ⊢
  clear hs1 hr hW hW1 hrg hmm hc0
  go_loopw [16] (fun _ wr => wr = W) (fun _ _ => 0)
  case atStart => rfl
  case round =>
    subst hrel
    go_wp2
    go_ret
    exact ⟨w.heap.size + 1, _, mv, rfl, HD.out, HB.out⟩
theorem dcopy_at {w : World} {base G : Nat} {m : Option Nat} {mv : ByteArray → Value} {es : List (ByteArray × List ByteArray)} (h : DagAt w base G m mv es) (hok : DagOk es) :
    Calls Try.prog 29 #[.pointer (some ⟨G, 0, none⟩)] w fun e w' => ∃ G' m' mv', e = .returned (.pointer (some ⟨G', 0, none⟩)) ∧ DagAt w' w.heap.size G' m' mv' es ∧ Below w.heap.size w w' := by
  cases m with
  | none => exact dcopy_none h
  | some b => exact dcopy_some h hok
end Go.Proofs.Ytabongfoeoideaa
