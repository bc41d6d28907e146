/-
  slices.AppendSeq, Collect and Sorted of slices.Values of texts.
-/
import Derived.Test.YtabongfoeoideaaDv1
import Derived.Test.YtabongfoeoideaaBlk
import Derived.Test.YtabongfoeoideaaOw
import Derived.Test.YtabongfoeoideaaSrtU
import Derived.Deep.AppendLies
namespace Go.Proofs.Ytabongfoeoideaa
open Go.RowKit Go.Shelf Go.Pal Go.Sort
attribute [local go_sem] Oper.semAt_some
set_option linter.unusedVariables false

theorem own_cells {w : World} {base n : Nat} {t : TypeId} {size : Nat} {v : Value} {l : List Value} (h : w.ownsRow base t size v n l) {j : Nat} {o : Obj} (hj : v.ownBlock = some j) (ho : w.heap[j]? = some o) : o.isCells = true := by
  obtain ⟨_, _, cur, hc⟩ := own_lt h hj
  rw [hc] at ho; cases ho; rfl
theorem row_value {w : World} {base n : Nat} {t : TypeId} {size : Nat} {v : Value} {l : List Value} (h : w.ownsRow base t size v n l) : ∃ p m c, v = .slice p m c := by
  rcases h.2 with ⟨rfl, _⟩ | ⟨g, cap, cur, rfl, _⟩
  · exact ⟨_, _, _, rfl⟩
  · exact ⟨_, _, _, rfl⟩
/-- Between two rounds: the box, what has come so far, and all that lay before. -/
structure Vp (w : World) (pre : List ByteArray) (W : World) : Prop where
  box : ∃ v, W.heap[w.heap.size]? = some (.cells #[v] 30 (0, 0)) ∧ W.ownsRow (w.heap.size + 1) 9 1 v pre.length (pre.map Value.string)
  bel : Below w.heap.size w W
theorem vp_own (w : World) : OwnFrom (w.alloc (.cells #[.slice none 0 0] 30)).heap.size (Vp w) := by
  intro s A B row hs hg hr
  obtain ⟨⟨v, hv, hown⟩, hb⟩ := hs
  have keep : ∀ (g : Nat) cs t fr, A.heap[g]? = some (.cells cs t fr) → B.heap[g]? = A.heap[g]? := fun g cs t fr h => hg.block g (Array.getElem?_eq_some_iff.1 h).1 (fun e => by
    obtain ⟨o, ho, hno⟩ := (hr g e.symm).2
    rw [h] at ho; cases ho; cases hno)
  refine ⟨⟨v, (keep _ _ _ _ hv).trans hv, own_kept hown (fun g hgg => by obtain ⟨_, _, cur, hcur⟩ := own_lt hown hgg; exact keep _ _ _ _ hcur)⟩, hb.grown hg hb.size (fun k hk => by have := (hr k hk).1; simp at this; omega)⟩
set_option maxRecDepth 100000 in
set_option maxHeartbeats 2000000 in
theorem app_vals (F : Fence) (n : Nat) (h11 : F.fn 55) (hf : F.fn 45) (hro : F.round = none) (hn : 3 ≤ n) (Bs cap : Nat) (a : Option Addr) (zs : List ByteArray) (hreach : zs.length ≤ 1000000) (w : World) (hBs : Bs < w.heap.size)
    (hc : w.cell? ⟨Bs, 0, none⟩ = some (.slice a zs.length cap)) (hI : StrRow w a zs) :
    CallsIn F n Try.prog 55 #[.slice none 0 0, .func (.func 45) #[] #[.pointer (some ⟨Bs, 0, none⟩)]] w fun e W' => ∃ v, e = .returned v ∧ W'.ownsRow (w.heap.size + 1) 9 1 v zs.length (zs.map Value.string) ∧ Below w.heap.size w W' := by
  have h1 : 1 ≤ n := by omega
  obtain ⟨i0, hi, hz0, hz1, hz2⟩ := info_parts (show (Try.prog.info? 9).map (fun i => (i.zero, i.size, i.bytes)) = some (some (.string ⟨#[]⟩), 1, 16) by kernel_rfl)
  refine callsIn_of_wp_marks Try.func55 rfl h11 ?_ hro
  simp only [Try.ntmps55, List.size_toArray, List.length_cons, List.length_nil, Nat.reduceAdd, Nat.reduceSub, Array.replicate_succ, Array.replicate_zero, List.push_toArray, List.append_toArray, List.nil_append, List.cons_append]
  gi_wp2
  have hB0 : Below w.heap.size w (w.alloc (.cells #[.slice none 0 0] 30)) := (Below.refl _ w).alloc (Nat.le_refl _) _
  have hlow : ∀ b off, zs ≠ [] → a = some ⟨b, off, none⟩ → b < w.heap.size := by
    intro b off hz ha
    rcases hI with h | ⟨b', off', e, hb, _⟩
    · exact absurd h hz
    · rw [ha] at e; cases e; exact hb
  refine wpIn_rangeFunc_ownG hro h1 (gf := 45) (lb := #[.pointer (some ⟨Bs, 0, none⟩)]) rfl hf (enters_of Try.func45 (by kernel_rfl) rfl)
    (vals_stops F (n - 1) hf hro (by omega) Bs w.heap.size cap a zs (by omega) _ (by simp; omega) (by simp) ((hB0.cell (p := ⟨Bs, 0, none⟩) hBs).trans hc) hlow (hI.below hB0)) belowK_t (belowK_b (by simp)) (Below.refl _ _) (fun _ => rfl)
    (Vp w) (fun _ _ _ => False) ?own (fun _ _ _ _ _ hs _ _ => hs) ?start
    (fun x => { tmps := #[.slice none 0 0, .func (.func 45) #[] #[.pointer (some ⟨Bs, 0, none⟩)], .pointer (some ⟨w.heap.size, 0, none⟩), undef, .slice none 0 0, .string x, .func (.func 45) #[] #[.pointer (some ⟨Bs, 0, none⟩)], .string x, undef, undef, undef, undef, undef], defers := [] }) ?assign ?body ?done ?stop
  case own => exact vp_own w
  case start => exact ⟨⟨_, by simpa using heap_alloc_new w (.cells #[.slice none 0 0] 30), World.ownsRow_nil _ _ _ _⟩, hB0⟩
  case assign =>
    intro l x W K hK
    gi_wp2
    exact hK
  case body =>
    rintro l pre x W ⟨⟨v, hv, hown⟩, hB⟩ hlen
    have hB' : Blk W w.heap.size 30 [v] := hv
    have c2 : W.cell? ⟨w.heap.size, 0, none⟩ = some v := hB'.cell 0
    have c2a : ∀ o, (W.alloc o).cell? ⟨w.heap.size, 0, none⟩ = some v := fun o => (hB'.alloc o).cell 0
    have HX := Lib.hid (show ∀ u ∈ [Value.string x], u.oneCell' = true by intro u hu; simp at hu; subst hu; rfl)
    have hpl : pre.length + 1 ≤ 1000000 := by omega
    have HM1 := Lib.hid (show pre.length + 1 ≤ maxLen by unfold maxLen; omega)
    have HM2 := Lib.hid (show (pre.length + 1) * 16 ≤ 140737488355328 by omega)
    have HBS := Lib.hid hB
    have HOW := Lib.hid hown
    have HBB := Lib.hid hB'
    clear hv hown hB hB'
    gi_wp2_with (gi_at_builtin; refine wpListIn_append_own _ rfl _ _ 30 rfl (w.heap.size + 1) 9 i0 (.string ⟨#[]⟩) 1 16 Try.underlying30 hi hz0 hz1 hz2 rfl (by decide) _ pre.length (pre.map Value.string) rfl (HOW.out.alloc _) ⟨W.heap.size, 0, none⟩ 1 1 [.string x] rfl rfl (World.news_of_block (cs := #[.string x]) (t := 9) (fr := (0, 0)) (heap_alloc_new W _)) HX.out HM1.out HM2.out (by have := HBB.out.lt; simp; omega) ?_)
    intro v' w3 hown' hg3 _
    have hne : some w.heap.size ≠ v.ownBlock := fun e => by have := (own_lt HOW.out e.symm).2.1; omega
    have b3 : Blk w3 w.heap.size 30 [v] := (HBB.out.alloc _).grown hg3 hne
    have hsz : (W.alloc (.cells #[.string x] 9)).heap.size = W.heap.size + 1 := by simp
    have HB3 := Lib.hid ((HBS.out.alloc HBS.out.size (.cells #[.string x] 9)).grown hg3 (by have := HBS.out.size; omega) (fun k hk => by have := (own_lt HOW.out hk).2.1; omega))
    have KO := Lib.hid ((KeepsOthers.alloc W (.cells #[.string x] 9)).trans (KeepsOthers.of_grownBy hg3 (fun j o hj ho => own_cells (HOW.out.alloc _) hj ho)))
    have BK := Lib.hid (show Below w.heap.size W w3 from ((Below.refl w.heap.size W).alloc HBS.out.size _).grown hg3 (by have := HBS.out.size; omega) (fun k hk => by have := (own_lt HOW.out hk).2.1; omega))
    obtain ⟨p3, n3, q3, rfl⟩ := row_value hown'
    have c3 : w3.cell? ⟨w.heap.size, 0, none⟩ = some v := b3.cell 0
    have f3 : w3.frozen? ⟨w.heap.size, 0, none⟩ = false := b3.frozen 0
    have HB4 := Lib.hid b3
    have HO4 := Lib.hid hown'
    clear hg3 b3 hown' c2 c2a hne
    gi_wp2
    refine ⟨(KO.out.trans (KeepsOthers.setCell _ _ _)).from _, BK.out.setCell (p := ⟨w.heap.size, 0, none⟩) (Nat.le_refl _) _, ⟨⟨_, HB4.out.set 0 _, ?_⟩, HB3.out.setCell (p := ⟨w.heap.size, 0, none⟩) (Nat.le_refl _) _⟩⟩
    rw [List.length_append, List.map_append]
    exact own_kept HO4.out (fun g hg => Below.heap_setCell _ _ _ g (by have := (own_lt HO4.out hg).2.1; simp; omega))
  case done =>
    rintro D ys W hD rfl ⟨⟨v, hv, hown⟩, hB⟩ hK
    have hB' : Blk W w.heap.size 30 [v] := hv
    have c2 : W.cell? ⟨w.heap.size, 0, none⟩ = some v := hB'.cell 0
    gi_wp2
    refine ⟨by simp, .inl ⟨_, _, rfl, run_takeDeferred hK, ?_⟩⟩
    have hown2 : (W.putObj D (.deferred none)).ownsRow (w.heap.size + 1) 9 1 v ys.length (ys.map Value.string) := own_kept hown (fun g hg => World.putObj_heap_other (fun e => by
      obtain ⟨_, _, cur, hcur⟩ := own_lt hown hg
      subst e; rw [hK] at hcur; cases hcur))
    exact ⟨_, results_tmp rfl _ _ _, v, rfl, hown2, hB.trans (belowK_b (w := w) (Nat.le_refl _) W D _ _ (by simp at hD; omega) hK rfl rfl)⟩
  case stop =>
    rintro D c pre W _ _ h _
    exact h.elim
end Go.Proofs.Ytabongfoeoideaa
