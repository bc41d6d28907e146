/-
  An event among a law's arguments, opened.
-/
import Derived.Test.YtggfmnmopfdiaaaGreatDoorE7
import Derived.ProofKit
import Derived.OpenShut
import Derived.ShutString
import Derived.SliceStrings
namespace Go.Proofs.YtggfmnmopfdiaaaGreatDoor
open Go.ChangeShapes Go.WideShapes Go.ChangeAt Go.RowKit Go.Pal Go.Pal.Fr Go.Pal.Ev

set_option maxRecDepth 100000 in
theorem open_event {H : Type} {enc : TypeId × Value → H} {W : World} {base : Nat} {v : Value} {d : DataW H} {ps : List MemPlace}
    (hok : Value.okWide Tryz.prog W .any base 24 v) (hT : DataW.Trod enc Tryz.prog W 0 (fun _ => true) true 24 v d ps) :
    ∃ (e : E) (a : Option Addr) (c : Nat), v = evV e a c ∧ Came W e a c ∧ (Lit.int .i64 e.kind).wf = true := by
  obtain ⟨fuel, hv⟩ := hT
  obtain ⟨cs, rfl, hcs⟩ := okWide_struct Tryz.underlying24 hok
  have c5 : Tryz.prog.cellsOf 24 = 5 := by kernel_rfl
  rw [c5] at hcs
  obtain ⟨l⟩ := cs
  match l, hcs with
  | [v0, v1, v2, v3, v4], _ =>
  have hvc : (Value.agg #[v0, v1, v2, v3, v4]).cells.toList = [v0, v1, v2, v3, v4] := rfl
  rw [hvc] at hv
  obtain ⟨xs, n, _, hx, hl, hlen, hf⟩ := DataW.trod_struct Tryz.underlying24 hv
  match xs, hlen with
  | [y0, y1, y2, y3, y4], _ =>
  have t0 := hf 0 _ rfl
  have t1 := hf 1 _ rfl
  have t2 := hf 2 _ rfl
  have t3 := hf 3 _ rfl
  have t4 := hf 4 _ rfl
  have ci : Tryz.prog.cellsOf 3 = 1 := by kernel_rfl
  have cs : Tryz.prog.cellsOf 9 = 1 := by kernel_rfl
  have cl : Tryz.prog.cellsOf 22 = 1 := by kernel_rfl
  simp only [ci, cs, cl, List.drop_zero, List.drop_succ_cons, List.take_succ_cons, List.take_zero, List.getElem?_cons_zero, List.getElem?_cons_succ, List.getElem_toArray, List.getElem_cons_zero, List.getElem_cons_succ] at t0 t1 t2 t3 t4
  obtain ⟨k, e0, _, wk⟩ := DataW.trod_int Tryz.underlying3 t0
  obtain ⟨au, e1, _, zau⟩ := DataW.trod_string Tryz.underlying9 t1
  obtain ⟨bo, e3, _, zbo⟩ := DataW.trod_string Tryz.underlying9 t3
  obtain ⟨sg, e4, _, zsg⟩ := DataW.trod_string Tryz.underlying9 t4
  simp only [List.cons.injEq, and_true] at e0 e1 e3 e4
  subst e0 e1 e3 e4
  rcases open_strings Tryz.underlying22 Tryz.underlying9 cs t2 with ⟨h2, _⟩ | ⟨x, len, cap, ss, h2, _, hlc, hcm, hz, _, hcell, hws⟩
  · simp only [List.cons.injEq, and_true] at h2
    subst h2
    exact ⟨⟨k, au, [], bo, sg⟩, none, 0, rfl, ⟨.inl rfl, Nat.zero_le _, Nat.le_refl _, fun i => by simp [at'], zbo, zau, zsg⟩, wk⟩
  · simp only [List.cons.injEq, and_true] at h2
    subst h2
    have hz2 : ss.length = cap := hz.trans (if_pos rfl)
    have hln : (ss.take len).length = len := by simp; omega
    refine ⟨⟨k, au, ss.take len, bo, sg⟩, some x, cap, by simp only [evV, hln], ⟨?_, by simp only [hln]; omega, by simp only [hln]; omega, fun i => ?_, zbo, zau, zsg⟩, wk⟩
    · by_cases hz0 : len = 0
      · exact .inl (by simp only [hz0, List.take_zero])
      obtain ⟨b, off, spot⟩ := x
      have hspot : spot = none := by simpa [Addr.add] using World.cell?_spot (hcell 0 (by omega))
      subst hspot
      refine .inr ⟨b, off, rfl, ?_, fun i hi => ?_⟩
      · have hc := hcell 0 (by omega)
        rcases Nat.lt_or_ge b W.heap.size with h1 | h1
        · exact h1
        · simp [World.cell?, Addr.add, Array.getElem?_eq_none h1] at hc
      · have hi' : i < len := by simp only [hln] at hi; exact hi
        have hc := hcell i (by omega)
        rw [add_plain] at hc
        rw [hc]
        simp [List.getD, hi']
    · by_cases hi : i < len
      · refine hws _ ?_
        simp only [at', List.getD_eq_getElem?_getD, List.getElem?_take, hi, if_true]
        rw [List.getElem?_eq_getElem (by omega)]
        exact List.getElem_mem _
      · rw [at', List.getD_eq_getElem?_getD, List.getElem?_eq_none (by rw [hln]; omega)]
        decide
end Go.Proofs.YtggfmnmopfdiaaaGreatDoor
