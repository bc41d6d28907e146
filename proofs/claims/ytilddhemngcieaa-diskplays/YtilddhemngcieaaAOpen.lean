/-
  Acts and rows of ints among a law's arguments, opened.
-/
import Derived.Test.YtilddhemngcieaaDk13
import Derived.ProofKit
import Derived.OpenShut
import Derived.ShutString
import Derived.ChangeSlices
import Derived.Deep.Slices
namespace Go.Proofs.Ytilddhemngcieaa
open Go.ChangeShapes Go.WideShapes Go.ChangeAt Go.RowKit Go.Pal Go.Pal.Dk

/-- Ints that may be. -/
def IntsOk (l : List Int) : Prop := l.length ≤ maxLen ∧ ∀ x ∈ l, -9223372036854775808 ≤ x ∧ x ≤ 9223372036854775807
theorem ints_of {H : Type} {enc : TypeId × Value → H} {W : World} {fuel : Nat} {v : Value} {x : DataW H × List MemPlace} (h : DataW.trod enc Try.prog W 0 (fun _ => true) true fuel 49 [v] = some x) :
    ∃ (a : Option Addr) (l : List Int) (cap : Nat), v = .slice a l.length cap ∧ IntRow W a l ∧ IntsOk l := by
  have cl : Try.prog.cellsOf 3 = 1 := by kernel_rfl
  rcases open_ints Try.underlying49 Try.underlying3 cl h with ⟨h2, _⟩ | ⟨a, len, cap, zs, h2, _, hlc, hcm, hz, _, hcell, hws⟩
  · simp only [List.cons.injEq, and_true] at h2
    subst h2
    exact ⟨none, [], 0, rfl, .inl rfl, Nat.zero_le _, fun x hx => by cases hx⟩
  · simp only [List.cons.injEq, and_true] at h2
    subst h2
    have hz2 : zs.length = cap := hz.trans (if_pos rfl)
    have hln : (zs.take len).length = len := by simp; omega
    refine ⟨some a, zs.take len, cap, by rw [hln], ?_, by rw [hln]; omega, fun x hx => ?_⟩
    · by_cases hz0 : len = 0
      · exact .inl (by simp only [hz0, List.take_zero])
      obtain ⟨b, off, spot⟩ := a
      have hspot : spot = none := by simpa [Addr.add] using World.cell?_spot (hcell 0 (by omega))
      subst hspot
      refine .inr ⟨b, off, rfl, ?_, fun i hi => ?_⟩
      · have hc := hcell 0 (by omega)
        rcases Nat.lt_or_ge b W.heap.size with h1 | h1
        · exact h1
        · simp [World.cell?, Addr.add, Array.getElem?_eq_none h1] at hc
      · have hi' : i < len := by rw [hln] at hi; exact hi
        have hc := hcell i (by omega)
        rw [add_plain] at hc
        rw [hc]
        simp [List.getD, hi']
    · exact bounds_i64 (hws x (List.mem_of_mem_take hx))
structure Ac where
  kind : Int
  name : ByteArray
  data : ByteArray
  n : Int
  keep : List Int
  at_ : Option Addr
  cap : Nat
def Ac.cells (c : Ac) : List Value := [.int .i64 c.kind, .string c.name, .string c.data, .int .i64 c.n, .slice c.at_ c.keep.length c.cap]
def Ac.val (c : Ac) : Value := .agg c.cells.toArray
structure AcOk (W : World) (c : Ac) : Prop where
  kind : -9223372036854775808 ≤ c.kind ∧ c.kind ≤ 9223372036854775807
  n : -9223372036854775808 ≤ c.n ∧ c.n ≤ 9223372036854775807
  name : c.name.size ≤ maxLen
  data : c.data.size ≤ maxLen
  row : IntRow W c.at_ c.keep
  keep : IntsOk c.keep
set_option maxRecDepth 100000 in
theorem act_of {H : Type} {enc : TypeId × Value → H} {W : World} {fuel : Nat} {l : List Value} {x : DataW H × List MemPlace} (hcs : l.length = 5)
    (hv : DataW.trod enc Try.prog W 0 (fun _ => true) true fuel 51 l = some x) : ∃ c : Ac, l = c.cells ∧ AcOk W c := by
  match l, hcs with
  | [v0, v1, v2, v3, v4], _ =>
  obtain ⟨xs, n, _, hx, hl, hlen, hf⟩ := DataW.trod_struct Try.underlying51 hv
  match xs, hlen with
  | [y0, y1, y2, y3, y4], _ =>
  have t0 := hf 0 _ rfl
  have t1 := hf 1 _ rfl
  have t2 := hf 2 _ rfl
  have t3 := hf 3 _ rfl
  have t4 := hf 4 _ rfl
  have ci : Try.prog.cellsOf 3 = 1 := by kernel_rfl
  have cs : Try.prog.cellsOf 9 = 1 := by kernel_rfl
  have cl : Try.prog.cellsOf 49 = 1 := by kernel_rfl
  simp only [ci, cs, cl, List.drop_zero, List.drop_succ_cons, List.take_succ_cons, List.take_zero, List.getElem?_cons_zero, List.getElem?_cons_succ, List.getElem_toArray, List.getElem_cons_zero, List.getElem_cons_succ] at t0 t1 t2 t3 t4
  obtain ⟨k, e0, _, wk⟩ := DataW.trod_int Try.underlying3 t0
  obtain ⟨nm, e1, _, znm⟩ := DataW.trod_string Try.underlying9 t1
  obtain ⟨dt, e2, _, zdt⟩ := DataW.trod_string Try.underlying9 t2
  obtain ⟨m, e3, _, wm⟩ := DataW.trod_int Try.underlying3 t3
  simp only [List.cons.injEq, and_true] at e0 e1 e2 e3
  subst e0 e1 e2 e3
  obtain ⟨a, l, cap, rfl, hr, hok⟩ := ints_of t4
  exact ⟨⟨k, nm, dt, m, l, a, cap⟩, rfl, ⟨bounds_i64 wk, bounds_i64 wm, znm, zdt, hr, hok⟩⟩
set_option maxRecDepth 100000 in
theorem open_act {H : Type} {enc : TypeId × Value → H} {W : World} {base : Nat} {v : Value} {d : DataW H} {ps : List MemPlace}
    (hok : Value.okWide Try.prog W .any base 51 v) (hT : DataW.Trod enc Try.prog W 0 (fun _ => true) true 51 v d ps) : ∃ c : Ac, v = c.val ∧ AcOk W c := by
  obtain ⟨fuel, hv⟩ := hT
  obtain ⟨cs, rfl, hcs⟩ := okWide_struct Try.underlying51 hok
  have c5 : Try.prog.cellsOf 51 = 5 := by kernel_rfl
  rw [c5] at hcs
  obtain ⟨l⟩ := cs
  have hvc : (Value.agg ⟨l⟩).cells.toList = l := rfl
  rw [hvc] at hv
  obtain ⟨c, rfl, hc⟩ := act_of (by simpa using hcs) hv
  exact ⟨c, rfl, hc⟩
end Go.Proofs.Ytilddhemngcieaa
