/-
  Layer 12: children.
-/
import Derived.Test.YtabongfoeoideaaDg7
import Derived.Test.YtabongfoeoideaaWa5
namespace Go.Pal
open Go.RowKit
def putC (cs : ByteArray → List ByteArray) (s x : ByteArray) : ByteArray → List ByteArray := fun t => if t = s then cs s ++ [x] else cs t
/-- Whose parent each is. -/
structure ChildOf (es : List (ByteArray × List ByteArray)) (cs : ByteArray → List ByteArray) : Prop where
  nodup : ∀ s, (cs s).Nodup
  mem : ∀ s x, x ∈ cs s ↔ s ∈ parE es x
theorem parE_there {es : List (ByteArray × List ByteArray)} {s x : ByteArray} (h : s ∈ parE es x) : (lookE es x).isSome = true := by
  obtain ⟨e, he, rfl, _⟩ := mem_parE h
  exact lookE_isSome.2 (List.mem_map_of_mem he)
theorem parE_nodup {es : List (ByteArray × List ByteArray)} (hok : DagOk es) (s : ByteArray) : (parE es s).Nodup := by
  unfold parE
  cases hl : lookE es s with
  | none => exact List.nodup_nil
  | some e => exact (hok.rise e (lookE_some hl).1).nodup
theorem getE_not_take {M : List ByteArray} (h : M.Nodup) {k : Nat} (hk : k < M.length) : M[k] ∉ M.take k := by
  have h1 : (M.take (k + 1)).Nodup := h.sublist (List.take_sublist _ _)
  rw [List.take_succ_eq_append_getElem hk, List.nodup_append] at h1
  exact fun hm => h1.2.2 _ hm _ (List.mem_singleton.2 rfl) rfl
end Go.Pal
namespace Go.Proofs.Ytabongfoeoideaa
open Go.RowKit Go.Pal Go.Shelf
set_option linter.unusedVariables false

/-- A map of texts' rows: K its keys, cs each key's row. -/
structure ChAt (w : World) (base C : Nat) (K : List ByteArray) (f : ByteArray → Option Value) (cs : ByteArray → List ByteArray) : Prop where
  map : MapF Try.prog 9 w C K.length f
  keys : ∀ s, (f s).isSome = memB K s
  row : ∀ s v, f s = some v → w.ownsRow base 9 1 v (cs s).length ((cs s).map Value.string)
  apart : ∀ s t v u g, f s = some v → f t = some u → v.ownBlock = some g → u.ownBlock = some g → s = t
  bare : ∀ s, f s = none → cs s = []
theorem ChAt.get {w : World} {base C : Nat} {K : List ByteArray} {f : ByteArray → Option Value} {cs : ByteArray → List ByteArray} (h : ChAt w base C K f cs) (s : ByteArray) : w.ownsRow base 9 1 ((f s).getD (.slice none 0 0)) (cs s).length ((cs s).map Value.string) := by
  cases hf : f s with
  | none => rw [h.bare s hf]; exact World.ownsRow_nil _ _ _ _
  | some v => exact h.row s v hf
theorem ChAt.ne {w : World} {base C : Nat} {K : List ByteArray} {f : ByteArray → Option Value} {cs : ByteArray → List ByteArray} (h : ChAt w base C K f cs) {s : ByteArray} {g : Nat} (hg : ((f s).getD (.slice none 0 0)).ownBlock = some g) : g ≠ C := fun e => by
  obtain ⟨_, _, cur, hcur⟩ := own_lt (h.get s) hg
  obtain ⟨q1, q2, hq⟩ := h.map.obj
  rw [e, hq] at hcur
  cases hcur
theorem ChAt.keep {w w' : World} {base C : Nat} {K : List ByteArray} {f : ByteArray → Option Value} {cs : ByteArray → List ByteArray} (h : ChAt w base C K f cs) (hC : w'.heap[C]? = w.heap[C]?) (hk : ∀ g, g < w.heap.size → base ≤ g → g ≠ C → w'.heap[g]? = w.heap[g]?) : ChAt w' base C K f cs :=
  ⟨h.map.keep hC, h.keys, fun s v hv => own_kept (h.row s v hv) (fun g hg => hk g (own_lt (h.row s v hv) hg).1 (own_lt (h.row s v hv) hg).2.1 (h.ne (s := s) (by rw [hv]; exact hg))), h.apart, h.bare⟩
theorem ChAt.put {w w2 w3 : World} {base C : Nat} {K : List ByteArray} {f : ByteArray → Option Value} {cs : ByteArray → List ByteArray} (h : ChAt w base C K f cs) {s x : ByteArray} {v : Value}
    (hv : w2.ownsRow base 9 1 v ((cs s).length + 1) ((cs s).map Value.string ++ [.string x])) (hg : w.grownBy w2 ((f s).getD (.slice none 0 0)).ownBlock) (hat : ∀ g, v.ownBlock = some g → ((f s).getD (.slice none 0 0)).ownBlock = some g ∨ w.heap.size ≤ g)
    (hm : MapF Try.prog 9 w3 C (if (f s).isSome then K.length else K.length + 1) (putF f s v)) (ht : w2.grownBy w3 (some C)) : ChAt w3 base C (addL K s) (putF f s v) (putC cs s x) := by
  have hvC : ∀ g, v.ownBlock = some g → g ≠ C := fun g hgv => by
    rcases hat g hgv with h1 | h1
    · exact h.ne h1
    · have := h.map.lt; omega
  have hold : ∀ t u, t ≠ s → f t = some u → w3.ownsRow base 9 1 u (cs t).length ((cs t).map Value.string) := fun t u hts hu => own_kept (h.row t u hu) (fun g hgu => by
    have hl := own_lt (h.row t u hu) hgu
    have hC : g ≠ C := h.ne (s := t) (by rw [hu]; exact hgu)
    refine (ht.block g (Nat.lt_of_lt_of_le hl.1 hg.size) (fun e => hC (Option.some.inj e))).trans (hg.block g hl.1 (fun e => ?_))
    cases hs : f s with
    | none => rw [hs] at e; cases e
    | some v0 => rw [hs] at e; exact hts (h.apart t s u v0 g hu hs hgu e.symm))
  refine ⟨?_, fun t => ?_, fun t u hu => ?_, fun t1 t2 u1 u2 g h1 h2 h3 h4 => ?_, fun t hn => ?_⟩
  · rw [addL_length, setL_some, ← h.keys]; exact hm
  · unfold putF
    by_cases e : t = s
    · rw [if_pos e, memB_iff.2 (mem_addL.2 (.inr e))]; rfl
    · rw [if_neg e, h.keys t, Bool.eq_iff_iff, memB_iff, memB_iff, mem_addL]
      exact ⟨.inl, fun h => by rcases h with h | h; exact h; exact absurd h e⟩
  · unfold putF at hu
    unfold putC
    by_cases e : t = s
    · rw [if_pos e] at hu ⊢
      cases hu
      have h9 := own_kept hv (w' := w3) (fun g hgv => ht.block g (own_lt hv hgv).1 (fun e => hvC g hgv (Option.some.inj e)))
      simpa using h9
    · rw [if_neg e] at hu ⊢
      exact hold t u e hu
  · unfold putF at h1 h2
    have hx : ∀ t u, t ≠ s → f t = some u → v.ownBlock = some g → u.ownBlock = some g → False := fun t u hts hu hv1 hu1 => by
      have hl := (own_lt (h.row t u hu) hu1).1
      rcases hat g hv1 with h5 | h5
      · cases hs : f s with
        | none => rw [hs] at h5; cases h5
        | some v0 => rw [hs] at h5; exact hts (h.apart t s u v0 g hu hs hu1 h5)
      · omega
    by_cases e1 : t1 = s
    · by_cases e2 : t2 = s
      · rw [e1, e2]
      · rw [if_pos e1] at h1; rw [if_neg e2] at h2
        cases h1; exact (hx t2 u2 e2 h2 h3 h4).elim
    · by_cases e2 : t2 = s
      · rw [if_neg e1] at h1; rw [if_pos e2] at h2
        cases h2; exact (hx t1 u1 e1 h1 h4 h3).elim
      · rw [if_neg e1] at h1; rw [if_neg e2] at h2
        exact h.apart t1 t2 u1 u2 g h1 h2 h3 h4
  · unfold putF at hn
    unfold putC
    by_cases e : t = s
    · rw [if_pos e] at hn; cases hn
    · rw [if_neg e] at hn ⊢; exact h.bare t hn
theorem ChAt.base {w : World} {b1 b2 C : Nat} {K : List ByteArray} {f : ByteArray → Option Value} {cs : ByteArray → List ByteArray} (h : ChAt w b1 C K f cs) (hb : b2 ≤ b1) : ChAt w b2 C K f cs :=
  ⟨h.map, h.keys, fun s v hv => own_base (h.row s v hv) hb, h.apart, h.bare⟩
set_option maxHeartbeats 4000000 in
set_option maxRecDepth 100000 in
theorem dchildren_at {w : World} {base G b : Nat} {mv : ByteArray → Value} {es : List (ByteArray × List ByteArray)} (h : DagAt w base G (some b) mv es) (hok : DagOk es) :
    Calls Try.prog 40 #[.pointer (some ⟨G, 0, none⟩)] w fun e w' => ∃ K f cs, e = .returned (.map (some w.heap.size)) ∧ ChAt w' w.heap.size w.heap.size K f cs ∧ GoodL es K ∧ ChildOf es cs ∧ Below w.heap.size w w' := by
  have HD := Lib.hid h
  have HOK := Lib.hid hok
  have hmm := @run_makeMap Try.prog
  have HM0 := Lib.hid (h.map b rfl).1
  have hbl := (h.map b rfl).1.lt
  have hc0 : ∀ o, (w.alloc o).cell? ⟨G, 0, none⟩ = some (.map (some b)) := fun o => (h.blk.alloc o).cell 0
  obtain ⟨i0, hi0, hz0, hz1, hz2⟩ := info_parts (show (Try.prog.info? 9).map (fun i => (i.zero, i.size, i.bytes)) = some (some (.string ⟨#[]⟩), 1, 16) by kernel_rfl)
  have I0 := Lib.hid hi0
  have Z0 := Lib.hid hz0
  have Z1 := Lib.hid hz1
  have Z2 := Lib.hid hz2
  clear h hok hi0 hz0 hz1 hz2
  go_enter Try.func40, Try.ntmps40
  go_wp2_with (first
    | (go_at_call 37; refine (dent_at (hc0 _)).mono ?_; rintro e w' ⟨rfl, e9⟩; rw [e9]; clear e9 w')
    | (at_range; refine wpList_range_F _ rfl _ 54 rfl 9 30 Try.underlying9 Try.underlying54 b es.length (mapE es mv) rfl (HM0.out.keep (heap_alloc_old _ _ hbl)) ?_; intro w0 hr0 hg0 hz0))
  go_frame
  obtain ⟨r, hr⟩ : ∃ r, r = (w.alloc (.map #[] 0)).heap.size := ⟨_, rfl⟩
  rw [← hr] at hr0 hz0 ⊢
  have hrw : r = w.heap.size + 1 := by simpa using hr
  have hbelow0 : Below w.heap.size w w0 := ((Below.refl w.heap.size w).alloc (Nat.le_refl _) _).grown hg0 (by simp) (fun j hj => by cases hj)
  have hch0 : ChAt w0 (w.heap.size + 2) w.heap.size [] (fun _ => none) (fun _ => []) := ⟨(MapF.made w Try.prog 9).keep (hg0.block _ (by simp) (by simp)), fun s => rfl, fun s v hv => (by cases hv), fun s t v u g h1 => (by cases h1), fun s _ => rfl⟩
  have HRW := Lib.hid hrw
  clear hr hg0 hz0 hc0 hmm hrw
  go_loopw [12] (fun _ wr => ∃ left cnt K f cs, RangeF Try.prog 9 wr b r es.length (mapE es mv) left cnt ∧ ChAt wr (w.heap.size + 2) w.heap.size K f cs ∧ GoodL es K ∧ (∀ s, (cs s).Nodup) ∧ (∀ s x, x ∈ cs s ↔ s ∈ parE es x ∧ left x = false) ∧ Below w.heap.size w wr) (fun _ wr => wr.rangeLeft b r)
  case atStart => exact ⟨_, _, [], _, _, hr0, hch0, ⟨List.nodup_nil, fun x hx => by cases hx⟩, fun s => List.nodup_nil, fun s x => ⟨fun h => by (cases h), fun h => by
    have h1 := parE_there h.1
    have h2 := h.2
    rw [mapE_some, h1] at h2; cases h2⟩, hbelow0⟩
  case round =>
    obtain ⟨left, cnt, K, f, cs, hr1, hch, hgk, hnd, hmem, hbw⟩ := hrel
    have HR := Lib.hid hr1
    have HCH := Lib.hid hch
    have HGK := Lib.hid hgk
    have HND := Lib.hid hnd
    have HMEM := Lib.hid hmem
    have HBW := Lib.hid hbw
    clear hr1 hch hgk hnd hmem hbw hr0 hch0 hbelow0
    go_wp2_with (at_next; refine wpList_next_F _ rfl _ rfl 9 Try.underlying9 b r es.length (mapE es mv) left cnt rfl HR.out ?_ ?_)
    · intro hc0 hl0
      have HL0 := Lib.hid hl0
      clear hl0
      go_wp2
      go_ret
      exact ⟨K, f, cs, rfl, HCH.out.base (by omega), HGK.out, ⟨HND.out, fun s x => by rw [HMEM.out s x, HL0.out x]; simp⟩, HBW.out⟩
    · intro s v w1 cnt1 hsz hls hfs hr1 hlt hg1 hs1 hen
      obtain ⟨a, cap, hva, hrow⟩ := HD.out.par s
      rw [hfs] at hva
      obtain rfl : v = .slice a (parE es s).length cap := hva
      have HROW := Lib.hid hrow
      have HLS := Lib.hid hls
      have hM3 := HOK.out.parLen s
      have HMN := Lib.hid (parE_nodup HOK.out s)
      obtain ⟨M, hM⟩ : ∃ M, M = parE es s := ⟨_, rfl⟩
      have HB1 := Lib.hid (show Below w.heap.size w w1 from HBW.out.grown hg1 HBW.out.size (fun j hj => by have := HRW.out; have := Option.some.inj hj; omega))
      have HR1 := Lib.hid hr1
      have hrl := HR.out.lt
      have HCH1 := Lib.hid (show ChAt w1 (w.heap.size + 2) w.heap.size K f cs from HCH.out.keep (hg1.block _ HCH.out.map.lt (fun e => by have := HRW.out; have := Option.some.inj e; omega)) (fun g hgl hgb hgc => hg1.block g hgl (fun e => by have := HRW.out; have := Option.some.inj e; omega)))
      rw [← hM] at hen HROW hM3 HMN ⊢
      have HM := Lib.hid hM
      clear hM hrow hls hfs hr1 hg1
      go_wp2
      have HEN := Lib.hid hen
      have HLT := Lib.hid hlt
      clear hen hlt
      rename World => wi0
      go_loopw [19] (fun j wi => ∃ k K f cs, k ≤ M.length ∧ j = .int .i64 (k : Nat) ∧ RangeF Try.prog 9 wi b r es.length (mapE es mv) (fun x => left x && !decide (x = s)) cnt1 ∧ ChAt wi (w.heap.size + 2) w.heap.size K f cs ∧ GoodL es K ∧ (∀ t, (cs t).Nodup) ∧ (∀ t x, x ∈ cs t ↔ (t ∈ parE es x ∧ left x = false) ∨ (x = s ∧ t ∈ M.take k)) ∧ Below w.heap.size w wi ∧ r < wi.heap.size) (fun j _ => M.length - (intOf j).toNat)
      case atStart => exact ⟨0, K, f, cs, Nat.zero_le _, rfl, HR1.out, HCH1.out, HGK.out, HND.out, fun t x => by rw [HMEM.out t x]; simp, HB1.out, by omega⟩
      case round =>
        obtain ⟨k, K2, f2, cs2, hk, rfl, hr2, hch2, hgk2, hnd2, hmem2, hb2, hrl2⟩ := hrel
        have HR2 := Lib.hid hr2
        have HCH2 := Lib.hid hch2
        have HGK2 := Lib.hid hgk2
        have HND2 := Lib.hid hnd2
        have HMEM2 := Lib.hid hmem2
        have HB2 := Lib.hid hb2
        by_cases hlt : k < M.length
        · have hqm : M[k] ∈ parE es s := by rw [← HM.out]; exact List.getElem_mem hlt
          have hnt := getE_not_take HMN.out hlt
          have HTK := Lib.hid (List.take_succ_eq_append_getElem hlt)
          obtain ⟨bq, off, rfl, _, hc⟩ := sRow_some (HROW.out.below hb2) (by omega)
          have ck := hc k hlt
          obtain ⟨hthere, _, hqs⟩ := HOK.out.there hqm
          have HTH := Lib.hid hthere
          have HQM := Lib.hid hqm
          have HNT := Lib.hid hnt
          clear hc hqm hnt hthere
          generalize M[k] = q at *
          have hqx : q.size ≤ maxLen := by unfold maxLen; omega
          have HQX := Lib.hid hqx
          have hlk := hch2.map.lookup Try.underlying9 Try.underlying54 (zeroS wr) hqx
          have hnot : s ∉ cs2 q := fun h => by
            rcases (HMEM2.out q s).1 h with h | h
            · rw [HLS.out] at h; cases h.2
            · exact HNT.out h.2
          have hgc : GoodL es (cs2 q) := ⟨hnd2 q, fun x hx => by
            rcases (HMEM2.out q x).1 hx with h | h
            · exact parE_there h.1
            · rw [h.1]; exact parE_there HQM.out⟩
          have hcl : (cs2 q).length ≤ 300 := Nat.le_trans hgc.len HOK.out.len
          have hkl : K2.length ≤ 300 := Nat.le_trans hgk2.len HOK.out.len
          have H1 := Lib.hid (show (cs2 q).length + 1 ≤ maxLen by unfold maxLen; omega)
          have H2 := Lib.hid (show ((cs2 q).length + 1) * 16 ≤ 140737488355328 by omega)
          have HNQ := Lib.hid hnot
          have HOWN := Lib.hid (hch2.get q)
          have HNE := Lib.hid (fun g (hg : ((f2 q).getD (.slice none 0 0)).ownBlock = some g) => hch2.ne hg)
          have HPUT := Lib.hid (fun w2 w3 v hv hg hat hm ht => ChAt.put (w2 := w2) (w3 := w3) (s := q) (x := s) (v := v) hch2 hv hg hat hm ht)
          have HKL := Lib.hid (show K2.length < maxLen by unfold maxLen; omega)
          have hCl := hch2.map.lt
          have HCM := Lib.hid hch2.map
          have hs2 : w.heap.size + 2 ≤ wr.heap.size := by have := HRW.out; omega
          obtain ⟨v0, hv0⟩ : ∃ v0, v0 = (f2 q).getD (.slice none 0 0) := ⟨_, rfl⟩
          rw [← hv0] at hlk HOWN HNE HPUT
          have HV0 := Lib.hid hv0
          clear hr2 hch2 hgk2 hnd2 hmem2 hb2 hnot hgc hcl hkl hv0 hqx
          go_wp2_with (first
            | (at_builtin; refine wpList_append_own_at _ rfl _ _ 30 rfl (w.heap.size + 2) 9 i0 (.string ⟨#[]⟩) 1 16 Try.underlying30 I0.out Z0.out Z1.out Z2.out rfl (by decide) v0 (cs2 q).length ((cs2 q).map Value.string) rfl (HOWN.out.alloc _) ⟨wr.heap.size, 0, none⟩ 1 1 [.string s] rfl rfl (one_new wr 9 s) (one_str1 s) H1.out H2.out (by simp; omega) ?_; intro v9 w9 ho9 hg9 _ hat9)
            | (at_mapUpdate; refine wpList_mapUpdate_F _ rfl _ _ _ 54 rfl 9 30 Try.underlying9 Try.underlying54 w.heap.size K2.length f2 rfl (HCM.out.keep ((hg9.block _ (by simp; omega) (fun e => HNE.out _ e.symm rfl)).trans (heap_alloc_old _ _ hCl))) HKL.out q HQX.out v9 rfl rfl ?_; intro w10 hm10 ht10))
          have hga : wr.grownBy w9 v0.ownBlock := (World.grownBy_alloc wr _ _).trans hg9
          have hgt := ht10.grown
          have hown2 : ∀ g, v0.ownBlock = some g → w.heap.size + 2 ≤ g := fun g hg => (own_lt HOWN.out hg).2.1
          have hold : ∀ g, g < w.heap.size + 2 → g ≠ w.heap.size → w10.heap[g]? = wr.heap[g]? := fun g hg hC =>
            (hgt.block g (by have := hga.size; omega) (fun e => hC (Option.some.inj e))).trans (hga.block g (by omega) (fun e => by have := hown2 g e.symm; omega))
          have hbm := (HCM.out.lt)
          have hbb : b < w.heap.size := hbl
          refine ⟨⟨k + 1, addL K2 q, putF f2 q v9, putC cs2 q s, by omega, by go_num, ?_, ?_, HGK2.out.add HTH.out, fun t => ?_, fun t x => ?_, ?_, ?_⟩, by simp [intOf]; omega⟩
          · exact HR2.out.keep (hold b (by omega) (by omega)) (hold r (by have := HRW.out; omega) (by have := HRW.out; omega))
          · refine HPUT.out w9 w10 v9 ho9 hga (fun g hg => ?_) hm10 hgt
            rcases hat9 with e | e
            · exact .inl (e ▸ hg)
            · rw [e] at hg; have := Option.some.inj hg; simp at this; exact .inr (by omega)
          · unfold putC; split
            · exact List.nodup_append.2 ⟨HND2.out q, by simp, fun a ha c hc => by rw [List.mem_singleton.1 hc]; exact fun e => HNQ.out (e ▸ ha)⟩
            · exact HND2.out t
          · unfold putC
            rw [HTK.out]
            by_cases e : t = q
            · rw [if_pos e, List.mem_append, HMEM2.out q x, e]
              simp only [List.mem_append, List.mem_singleton, or_true, and_true]
              constructor
              · rintro ((h | h) | h)
                · exact .inl h
                · exact .inr h.1
                · exact .inr h
              · rintro (h | h)
                · exact .inl (.inl h)
                · exact .inr h
            · rw [if_neg e, HMEM2.out t x]
              simp [e]
          · exact (HB2.out.grown hga HB2.out.size (fun j hj => by have := hown2 j hj; omega)).grown hgt (by have := HB2.out.size; have := hga.size; omega) (fun j hj => by have := Option.some.inj hj; omega)
          · have h1 := hga.size; have h2 := hgt.size; omega
        · obtain rfl : k = M.length := by omega
          clear hr2 hch2 hgk2 hnd2 hmem2 hb2
          go_wp2
          go_roundw
          case rel =>
            refine ⟨_, cnt1, K2, f2, cs2, HR2.out, HCH2.out, HGK2.out, HND2.out, fun t x => ?_, HB2.out⟩
            rw [HMEM2.out t x, List.take_length, HM.out]
            by_cases e : x = s
            · subst e; simp [HLS.out]
            · simp [e]
          case measure =>
            have h1 := HR.out.left_eq
            have h2 := HR2.out.left_eq
            rw [h1, h2]; exact HLT.out
set_option maxHeartbeats 1000000 in
set_option maxRecDepth 100000 in
theorem dchildren_none {w : World} {p : Option Addr} (h : ∀ o, Calls Try.prog 37 #[.pointer p] (w.alloc o) fun e w' => e = .returned (.map none) ∧ w' = w.alloc o) :
    Calls Try.prog 40 #[.pointer p] w fun e w' => e = .returned (.map (some w.heap.size)) ∧ ChAt w' w.heap.size w.heap.size [] (fun _ => none) (fun _ => []) ∧ Below w.heap.size w w' := by
  have hmm := @run_makeMap Try.prog
  have hrg := run_range_nilMap (P := Try.prog) (w.alloc (.map #[] 0)) 54 9 30 Try.underlying54
  have HE := Lib.hid (h (.map #[] 0))
  obtain ⟨W, hW⟩ : ∃ W, W = (w.alloc (.map #[] 0)).alloc (.mapIter none 0 #[] 0) := ⟨_, rfl⟩
  have hnx : ∀ ty, (Instr.next (.pointer (some ⟨(w.alloc (.map #[] 0)).heap.size, 0, none⟩)) false ty).run Try.prog W = .ok (.tuple #[.bool false]) W := fun ty => by rw [hW]; exact run_next_nilMap _ ty 0 0 #[]
  rw [← hW] at hrg
  have HB := Lib.hid (show Below w.heap.size w W by rw [hW]; exact ((Below.refl _ _).alloc (Nat.le_refl _) _).alloc (by simp) _)
  have HC := Lib.hid (show ChAt W w.heap.size w.heap.size [] (fun _ => none) (fun _ => []) from ⟨(MapF.made w Try.prog 9).keep (by rw [hW]; exact heap_alloc_old _ _ (by simp)), fun s => rfl, fun s v hv => (by cases hv), fun s t v u g h1 => (by cases h1), fun s _ => rfl⟩)
  obtain ⟨r, hr⟩ : ∃ r, r = (w.alloc (.map #[] 0)).heap.size := ⟨_, rfl⟩
  rw [← hr] at hrg hnx
  clear hW hr h
  go_enter Try.func40, Try.ntmps40
  go_wp2_with (go_at_call 37; refine HE.out.mono ?_; rintro e w' ⟨rfl, e9⟩; rw [e9]; clear e9 w')
  go_loopw [12] (fun _ wr => wr = W) (fun _ _ => 0)
  case atStart => rfl
  case round =>
    subst hrel
    go_wp2
    go_ret
    exact ⟨rfl, HC.out, HB.out⟩
theorem dchildren_any {w : World} {base : Nat} {p : Option Addr} {m : Option Nat} {mv : ByteArray → Value} {es : List (ByteArray × List ByteArray)} (h : DagP w base p m mv es) (hok : DagOk es) :
    Calls Try.prog 40 #[.pointer p] w fun e w' => ∃ K f cs, e = .returned (.map (some w.heap.size)) ∧ ChAt w' w.heap.size w.heap.size K f cs ∧ GoodL es K ∧ ChildOf es cs ∧ Below w.heap.size w w' := by
  have hnone : es = [] → ChildOf es (fun _ => []) := fun he => ⟨fun s => List.nodup_nil, fun s x => by
    subst he; exact ⟨fun h => (by cases h), fun h => (by cases h)⟩⟩
  have hzero : m = none → es = [] → Calls Try.prog 40 #[.pointer p] w fun e w' => ∃ K f cs, e = .returned (.map (some w.heap.size)) ∧ ChAt w' w.heap.size w.heap.size K f cs ∧ GoodL es K ∧ ChildOf es cs ∧ Below w.heap.size w w' := fun hm he => by
    refine (dchildren_none (p := p) (fun o => ?_)).mono ?_
    · have := (h.below (n := w.heap.size) ((Below.refl _ _).alloc (Nat.le_refl _) o) (Nat.le_refl _)).ent
      rw [hm] at this; exact this
    · rintro e w' ⟨rfl, h1, h2⟩
      exact ⟨[], _, _, rfl, h1, ⟨List.nodup_nil, fun x hx => by cases hx⟩, hnone he, h2⟩
  rcases id h with ⟨hp, hm, he⟩ | ⟨G, hp, hd⟩
  · exact hzero hm he
  · cases m with
    | none => exact hzero rfl (hd.empty rfl)
    | some b => subst hp; exact dchildren_at hd hok
end Go.Proofs.Ytabongfoeoideaa
