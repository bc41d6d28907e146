/-
  Layer 12: Heads.
-/
import Derived.Test.YtabongfoeoideaaDg9
namespace Go.Proofs.Ytabongfoeoideaa
open Go.RowKit Go.Pal Go.Shelf
set_option linter.unusedVariables false

/-- What Heads answers. -/
def HeadsOf (w : World) (es : List (ByteArray × List ByteArray)) (e : Ending) (w' : World) : Prop := ∃ v, e = .returned v ∧ w'.ownsRow w.heap.size 9 1 v (riseL (headE es)).length ((riseL (headE es)).map Value.string) ∧ Below w.heap.size w w'
set_option maxHeartbeats 4000000 in
set_option maxRecDepth 100000 in
theorem dheads_at {w : World} {base G b : Nat} {mv : ByteArray → Value} {es : List (ByteArray × List ByteArray)} (h : DagAt w base G (some b) mv es) (hok : DagOk es) :
    Calls Try.prog 23 #[.pointer (some ⟨G, 0, none⟩)] w fun e w' => HeadsOf w es e w' := by
  have HOK := Lib.hid hok
  have HD := Lib.hid h
  have HC := Lib.hid (dchildren_at h hok)
  have hbl := (h.map b rfl).1.lt
  obtain ⟨i0, hi0, hz0, hz1, hz2⟩ := info_parts (show (Try.prog.info? 9).map (fun i => (i.zero, i.size, i.bytes)) = some (some (.string ⟨#[]⟩), 1, 16) by kernel_rfl)
  have I0 := Lib.hid hi0
  have Z0 := Lib.hid hz0
  have Z1 := Lib.hid hz1
  have Z2 := Lib.hid hz2
  clear h hok hi0 hz0 hz1 hz2
  go_enter Try.func23, Try.ntmps23
  go_wp2_with (first
    | (go_at_call 40; refine HC.out.mono ?_; rintro e w1 ⟨K, f, cs, rfl, hch, hgk, hco, hb1⟩; have HCH := Lib.hid hch; have HCO := Lib.hid hco; have HB1 := Lib.hid hb1; have hD1 := HD.out.below hb1 (Nat.le_refl _); have hc1 : w1.cell? ⟨G, 0, none⟩ = some (.map (some b)) := hD1.blk.cell 0; have HM1 := Lib.hid (hD1.map b rfl).1; clear hch hgk hco hb1 hD1)
    | (go_at_call 37; refine (dent_at hc1).mono ?_; rintro e w' ⟨rfl, e9⟩; rw [e9]; clear e9 w')
    | (at_range; refine wpList_range_F _ rfl _ 54 rfl 9 30 Try.underlying9 Try.underlying54 b es.length (mapE es mv) rfl HM1.out ?_; intro w2 hr2 hg2 hz2))
  go_frame
  obtain ⟨r, hr⟩ : ∃ r, r = w1.heap.size := ⟨_, rfl⟩
  have hw1 := HB1.out.size
  have hr2' := hr2
  rw [← hr] at hr2 ⊢
  have hzz : w2.heap.size = r + 1 := by omega
  have HRW := Lib.hid hr
  have HZZ := Lib.hid hzz
  have HBW := Lib.hid (show Below r w1 w2 from by rw [hr]; exact (Below.refl _ w1).grown hg2 (Nat.le_refl _) (fun j hj => by cases hj))
  have HCH1 := Lib.hid (fun W (hb : Below r w1 W) => (show ChAt W w.heap.size w.heap.size K f cs from HCH.out.keep (hb.block _ (by have := HCH.out.map.lt; have := HRW.out; omega)) (fun g hg _ _ => hb.block g (by have := HRW.out; omega))))
  have hrw : w.heap.size ≤ r := by omega
  clear hr hg2 hr2' hz2 hzz hc1
  go_loopw [4, 11] (fun v4 _ wr => ∃ left cnt H, RangeF Try.prog 9 wr b r es.length (mapE es mv) left cnt ∧ wr.ownsRow (r + 1) 9 1 v4 H.length ((H : List ByteArray).map Value.string) ∧ H.Nodup ∧ (∀ x, x ∈ H ↔ (lookE es x).isSome = true ∧ left x = false ∧ cs x = []) ∧ Below r w1 wr ∧ r < wr.heap.size) (fun _ _ wr => wr.rangeLeft b r)
  case atStart => exact ⟨_, _, [], hr2, World.ownsRow_nil _ _ _ _, List.nodup_nil, fun x => ⟨fun h => by (cases h), fun h => by
    have h2 := h.2.1
    rw [mapE_some, h.1] at h2; cases h2⟩, HBW.out, by have := HZZ.out; omega⟩
  case round =>
    obtain ⟨left, cnt, H, hr1, hown, hnd, hmem, hbw, hrl⟩ := hrel
    have HR := Lib.hid hr1
    have HOWN := Lib.hid hown
    have HND := Lib.hid hnd
    have HMEM := Lib.hid hmem
    have HB := Lib.hid hbw
    have hwr : w1.heap.size ≤ wr.heap.size := hbw.size
    clear hr1 hown hnd hmem hbw hr2 HBW
    go_wp2_with (at_next; refine wpList_next_F _ rfl _ rfl 9 Try.underlying9 b r es.length (mapE es mv) left cnt rfl HR.out ?_ ?_)
    · intro hc0 hl0
      have HL0 := Lib.hid hl0
      have hg9 : GoodL es H := ⟨HND.out, fun x hx => ((HMEM.out x).1 hx).1⟩
      have hlen : H.length ≤ 300 := Nat.le_trans hg9.len HOK.out.len
      have hsame : riseL H = riseL (headE es) := rise_eq (rise_rising _) (fun s => by rw [mem_rise, mem_headE HCO.out, HMEM.out s, HL0.out s]; simp)
      have HSRT := Lib.hid (sort_set (by omega) HND.out HOWN.out)
      rw [hsame] at HSRT
      have HSZ := Lib.hid (show ∀ s ∈ riseL (headE es), s.size ≤ 281474976710656 from fun s hs => by
        obtain ⟨e, he, rfl⟩ := List.mem_map.1 (lookE_isSome.1 ((mem_headE HCO.out s).1 ((mem_rise _ s).1 hs)).1)
        have := HOK.out.size e he; omega)
      have HLE := Lib.hid (show (riseL (headE es)).length ≤ 1000000 from by rw [← hsame]; exact Nat.le_trans (rise_le _) (by omega))
      have HOFF := Lib.hid (fun g (hg : Value.ownBlock _ = some g) => (own_lt HOWN.out hg).2.1)
      have HCP := Lib.hid (fun W base' v (ho : (W : World).ownsRow base' 9 1 v (riseL (headE es)).length ((riseL (headE es)).map Value.string)) => dcopied_own ho HLE.out HSZ.out)
      clear hl0 hg9 hlen hsame
      obtain ⟨R, hR⟩ : ∃ R, R = riseL (headE es) := ⟨_, rfl⟩
      rw [← hR] at HSRT HSZ HLE HCP
      have HR9 := Lib.hid hR
      clear hR
      go_wp2_with (first
        | (go_at_call 32; refine (HCP.out w3 _ _ O3.out).mono ?_; rintro e w4 ⟨v4, rfl, ho4, hb4⟩; obtain ⟨p4, c4, rfl, _⟩ := rowS_form ho4; have HO4 := Lib.hid ho4; have HB4 := Lib.hid hb4; clear ho4 hb4)
        | (go_at_call 41; refine HSRT.out.mono ?_; rintro e w3 ⟨rfl, ho3, hg3⟩; have O3 := Lib.hid ho3; have G3 := Lib.hid hg3; clear ho3 hg3))
      go_ret
      have hb3 : Below w.heap.size w w3 := (HB1.out.trans (HB.out.mono hrw)).grown G3.out (by omega) (fun j hj => by have := HOFF.out j hj; omega)
      have h3 := hb3.size
      unfold HeadsOf
      rw [← HR9.out]
      exact ⟨_, rfl, own_base HO4.out h3, hb3.trans (HB4.out.mono h3)⟩
    · intro s v w3 cnt1 hsz hls hfs hr3 hlt hg3 hs3 hen
      have HLS := Lib.hid hls
      have HTHERE := Lib.hid (show (lookE es s).isSome = true from by rw [← mapE_some es mv s, hfs]; rfl)
      have hb3 : Below r w1 w3 := HB.out.grown hg3 (by omega) (fun j hj => by have := Option.some.inj hj; omega)
      have hch := HCH1.out w3 hb3
      have hlk := hch.map.lookup Try.underlying9 Try.underlying54 (zeroS w3) hsz
      obtain ⟨p5, c5, hv5, _⟩ := rowS_form (hch.get s)
      rw [hv5] at hlk
      have HOWN3 := Lib.hid (own_kept HOWN.out (w' := w3) (fun g hg => hg3.block g (own_lt HOWN.out hg).1 (fun e => by have := Option.some.inj e; have := (own_lt HOWN.out hg).2.1; omega)))
      have HB3 := Lib.hid hb3
      have HR3 := Lib.hid hr3
      have HLT := Lib.hid hlt
      have hs3' : r < w3.heap.size := by omega
      have HS3 := Lib.hid hs3
      clear hs3
      clear hls hfs hb3 hch hv5 hr3 hlt hg3
      by_cases hcs : cs s = []
      · have hlk0 := hlk
        rw [hcs, List.length_nil] at hlk0
        have HCS := Lib.hid hcs
        have hgH : GoodL es H := ⟨HND.out, fun x hx => ((HMEM.out x).1 hx).1⟩
        have hlen : H.length ≤ 300 := Nat.le_trans hgH.len HOK.out.len
        have H1 := Lib.hid (show H.length + 1 ≤ maxLen by unfold maxLen; omega)
        have H2 := Lib.hid (show (H.length + 1) * 16 ≤ 140737488355328 by omega)
        have hnot : s ∉ H := fun hh => by
          have := ((HMEM.out s).1 hh).2.1
          rw [HLS.out] at this; cases this
        have HNT := Lib.hid hnot
        clear hlk hcs hgH hlen hnot
        go_wp2_with (at_builtin; refine wpList_append_own _ rfl _ _ 30 rfl (r + 1) 9 i0 (.string ⟨#[]⟩) 1 16 Try.underlying30 I0.out Z0.out Z1.out Z2.out rfl (by decide) _ H.length (H.map Value.string) rfl (HOWN3.out.alloc _) ⟨w3.heap.size, 0, none⟩ 1 1 [.string s] rfl rfl (one_new w3 9 s) (one_str1 s) H1.out H2.out (by simp; omega) ?_; intro v9 w9 ho9 hg9 _)
        have hga := (World.grownBy_alloc w3 (.cells #[.string s] 9) _).trans hg9
        have hown2 : ∀ g, Value.ownBlock _ = some g → r + 1 ≤ g := fun g hg => (own_lt HOWN3.out hg).2.1
        have hb9 := HR3.out.map.lt
        have hbr : b < r := by omega
        have hR9 := HR3.out.keep (w' := w9) (hga.block b hb9 (fun e => by have := hown2 b e.symm; omega)) (hga.block r hs3' (fun e => by have := hown2 r e.symm; omega))
        refine ⟨⟨_, cnt1, H ++ [s], hR9, by simpa using ho9, ?_, fun x => ?_, ?_, ?_⟩, by rw [HR.out.left_eq, hR9.left_eq]; exact HLT.out⟩
        · exact List.nodup_append.2 ⟨HND.out, by simp, fun a ha c hc => by rw [List.mem_singleton.1 hc]; exact fun e => HNT.out (e ▸ ha)⟩
        · rw [List.mem_append, HMEM.out x, List.mem_singleton]
          by_cases e : x = s
          · subst e; simp [HTHERE.out, HCS.out]
          · simp [e]
        · exact HB3.out.grown hga (by omega) (fun j hj => by have := hown2 j hj; omega)
        · have := hga.size; omega
      · have HCS := Lib.hid hcs
        obtain ⟨n, hn⟩ : ∃ n, n = (cs s).length := ⟨_, rfl⟩
        have hn0 : ¬ n = 0 := fun e => hcs (List.eq_nil_of_length_eq_zero (by omega))
        rw [← hn] at hlk
        clear hcs hn
        go_wp2
        refine ⟨⟨_, cnt1, H, HR3.out, HOWN3.out, HND.out, fun x => ?_, HB3.out, hs3'⟩, by rw [HR.out.left_eq, HR3.out.left_eq]; exact HLT.out⟩
        rw [HMEM.out x]
        by_cases e : x = s
        · subst e; simp [HCS.out]
        · simp [e]
set_option maxHeartbeats 1000000 in
set_option maxRecDepth 100000 in
theorem dheads_none {w : World} {p : Option Addr} (h : ∀ W, Below w.heap.size w W → Calls Try.prog 37 #[.pointer p] W fun e w' => e = .returned (.map none) ∧ w' = W)
    (hc : Calls Try.prog 40 #[.pointer p] w fun e w' => ∃ K f cs, e = .returned (.map (some w.heap.size)) ∧ ChAt w' w.heap.size w.heap.size K f cs ∧ GoodL [] K ∧ ChildOf [] cs ∧ Below w.heap.size w w') :
    Calls Try.prog 23 #[.pointer p] w fun e w' => HeadsOf w [] e w' := by
  have HE := Lib.hid h
  have HC := Lib.hid hc
  have hrg := fun (W : World) => run_range_nilMap (P := Try.prog) W 54 9 30 Try.underlying54
  have hnx := fun (W : World) ty => run_next_nilMap (P := Try.prog) W ty 0 0 #[]
  have HS := Lib.hid (fun (W : World) => sort_call (w := W) (base := 0) (v := .slice none 0 0) (zs := []) (by simp) (World.ownsRow_nil _ _ _ _))
  have HCP := Lib.hid (fun (W : World) => dcopied_own (w := W) (base := 0) (v := .slice none 0 0) (M := []) (World.ownsRow_nil _ _ _ _) (by simp) (fun s hs => by cases hs))
  clear h hc
  go_enter Try.func23, Try.ntmps23
  go_wp2_with (first
    | (go_at_call 40; refine HC.out.mono ?_; rintro e w1 ⟨K, f, cs, rfl, _, _, _, hb1⟩; have HB1 := Lib.hid hb1; clear hb1)
    | (go_at_call 37; refine (HE.out _ HB1.out).mono ?_; rintro e w' ⟨rfl, e9⟩; rw [e9]; clear e9 w'))
  have hnx1 := hnx w1
  obtain ⟨W, hW⟩ : ∃ W, W = w1.alloc (.mapIter none 0 #[] 0) := ⟨_, rfl⟩
  have HBW := Lib.hid (show Below w.heap.size w W by rw [hW]; exact HB1.out.alloc HB1.out.size _)
  rw [← hW] at hnx1 ⊢
  obtain ⟨r, hr⟩ : ∃ r, r = w1.heap.size := ⟨_, rfl⟩
  rw [← hr] at hnx1 ⊢
  clear hrg hnx hW hr HE HC
  go_loopw [4, 11] (fun v4 _ wr => v4 = .slice none 0 0 ∧ wr = W) (fun _ _ _ => 0)
  case atStart => exact ⟨rfl, rfl⟩
  case round =>
    obtain ⟨rfl, hwr⟩ := hrel
    subst hwr
    go_wp2_with (first
      | (go_at_call 32; refine (HCP.out w3).mono ?_; rintro e w4 ⟨v4, rfl, ho4, hb4⟩; obtain ⟨p4, c4, rfl, _⟩ := rowS_form ho4; have HO4 := Lib.hid ho4; have HB4 := Lib.hid hb4; clear ho4 hb4)
      | (go_at_call 41; refine (HS.out _).mono ?_; rintro e w3 ⟨rfl, _, hg3⟩; have G3 := Lib.hid hg3; clear hg3))
    go_ret
    have hb3 : Below w.heap.size w w3 := HBW.out.grown G3.out HBW.out.size (fun j hj => by cases hj)
    exact ⟨_, rfl, own_base HO4.out hb3.size, hb3.trans (HB4.out.mono hb3.size)⟩
/-- Heads, of no dag and of any. -/
theorem dheads_any {w : World} {base : Nat} {p : Option Addr} {m : Option Nat} {mv : ByteArray → Value} {es : List (ByteArray × List ByteArray)} (h : DagP w base p m mv es) (hok : DagOk es) :
    Calls Try.prog 23 #[.pointer p] w fun e w' => HeadsOf w es e w' := by
  have hzero : m = none → es = [] → Calls Try.prog 23 #[.pointer p] w fun e w' => HeadsOf w es e w' := fun hm he => by
    subst hm
    subst he
    exact dheads_none (fun W hb => (h.below hb (Nat.le_refl _)).ent) (dchildren_any h hok)
  rcases id h with ⟨hp, hm, he⟩ | ⟨G, hp, hd⟩
  · exact hzero hm he
  · cases m with
    | none => exact hzero rfl (hd.empty rfl)
    | some b => subst hp; exact dheads_at hd hok
end Go.Proofs.Ytabongfoeoideaa
