/-
  Rows of texts, and of structs that hold such, among a law's arguments, opened: with the bound that the form's reach gives.
-/
import Derived.Test.YtabongfoeoideaaWa0
import Derived.ProofKit
import Derived.OpenShut
import Derived.ShutString
import Derived.ChangeSlices
import Derived.ChangeOld
import Derived.SizedLaws
import Derived.Deep.Slices
import Derived.SliceStrings
namespace Go.Proofs.Ytabongfoeoideaa
open Go.ChangeShapes Go.WideShapes Go.ChangeAt Go.RowKit Go.Pal
set_option linter.unusedVariables false

/-- No weight of a datum is above the reach. -/
def Lo {H : Type} (t : TypeId) (d : DataW H) : Prop := ∀ n ∈ DataW.weights Try.prog t d, n ≤ 140737488351232
theorem lo_each {H : Type} {ts : List TypeId} {ds : List (DataW H)} (h : (DataW.weightsEach Try.prog ts ds).all (· ≤ reachBytes) = true) {j : Nat} {t : TypeId} {d : DataW H} (ht : ts[j]? = some t) (hd : ds[j]? = some d) : Lo t d := fun n hn => by
  have := List.all_eq_true.1 h _ (DataW.weights_mem_each ht hd n hn)
  exact of_decide_eq_true this
theorem weights_all {H : Type} {e : TypeId} {d : DataW H} {n : Nat} : ∀ {l : List (DataW H)}, d ∈ l → n ∈ DataW.weights Try.prog e d → n ∈ DataW.weightsAll Try.prog e l
  | [], h, _ => by cases h
  | a :: r, h, hn => by
    rw [DataW.weightsAll]
    rcases List.mem_cons.1 h with rfl | h
    · exact List.mem_append_left _ hn
    · exact List.mem_append_right _ (weights_all h hn)
theorem lo_string {H : Type} {t : TypeId} {s : ByteArray} (h : Lo (H := H) t (.lit (.string s.data.toList))) : s.size ≤ 140737488351232 := by
  have := h s.data.toList.length (by simp [DataW.weights])
  simpa using this
theorem lo_elem {H : Type} {t e : TypeId} {el sp : List (DataW H)} (ht : Try.prog.underlying t = some (.slice e)) (h : Lo t (.slice el sp)) {d : DataW H} (hd : d ∈ el) : Lo e d := fun n hn => by
  refine h n ?_
  rw [DataW.weights, ht]
  exact List.mem_cons_of_mem _ (List.mem_append_left _ (weights_all hd hn))
theorem lo_part {H : Type} {t : TypeId} {fs : Array Field} {parts : List (DataW H)} (ht : Try.prog.underlying t = some (.struct fs)) (h : Lo t (.agg parts)) {j : Nat} {e : TypeId} {d : DataW H} (he : (fs.toList.map (·.type))[j]? = some e) (hd : parts[j]? = some d) : Lo e d := fun n hn => by
  refine h n ?_
  rw [DataW.weights, ht]
  exact DataW.weights_mem_each he hd n hn
/-- A row of texts that came in. -/
structure StrsAt (W : World) (a : Option Addr) (l : List ByteArray) : Prop where
  row : StrRow W a l
  len : l.length ≤ maxLen
  size : ∀ s ∈ l, s.size ≤ 140737488351232
theorem StrsAt.below {W W' : World} {a : Option Addr} {l : List ByteArray} (h : StrsAt W a l) (hb : Below W.heap.size W W') : StrsAt W' a l := ⟨h.row.below hb, h.len, h.size⟩
theorem strs_of {H : Type} {enc : TypeId × Value → H} {W : World} {fuel : Nat} {v : Value} {x : DataW H × List MemPlace} (h : DataW.trod enc Try.prog W 0 (fun _ => true) true fuel 30 [v] = some x) (hlo : Lo 30 x.1) :
    ∃ (a : Option Addr) (l : List ByteArray) (cap : Nat), v = .slice a l.length cap ∧ (a = none → cap = 0) ∧ StrsAt W a l := by
  rcases open_strings Try.underlying30 Try.underlying9 (by kernel_rfl) h with ⟨hcs, _⟩ | ⟨x, l, c, ss, hcs, _, hl, hm, hz, rfl, hcell, hws⟩
  · simp only [List.cons.injEq, and_true] at hcs
    subst hcs
    exact ⟨none, [], 0, rfl, fun _ => rfl, .inl rfl, Nat.zero_le _, fun s hs => by cases hs⟩
  · simp only [List.cons.injEq, and_true] at hcs
    subst hcs
    have hz2 : ss.length = c := hz.trans (if_pos rfl)
    have hln : (ss.take l).length = l := by simp; omega
    refine ⟨some x, ss.take l, c, by rw [hln], (fun h => by cases h), ?_, by rw [hln]; omega, fun s hs => lo_string (H := H) (lo_elem Try.underlying30 hlo (List.mem_map.2 ⟨s, hs, rfl⟩))⟩
    by_cases hz0 : l = 0
    · exact .inl (by rw [hz0, List.take_zero])
    obtain ⟨b, off, spot⟩ := x
    have hspot : spot = none := by simpa [Addr.add] using World.cell?_spot (hcell 0 (by omega))
    subst hspot
    refine .inr ⟨b, off, rfl, ?_, fun i hi => ?_⟩
    · have hc := hcell 0 (by omega)
      rcases Nat.lt_or_ge b W.heap.size with h1 | h1
      · exact h1
      · simp [World.cell?, Addr.add, Array.getElem?_eq_none h1] at hc
    · have hi' : i < l := by rw [hln] at hi; exact hi
      have hc := hcell i (by omega)
      rw [Go.WideShapes.add_plain] at hc
      rw [hc]
      simp [List.getD, hi']

structure Wc where
  kind : Int
  id : ByteArray
  text : ByteArray
  miss : List ByteArray
  at_ : Option Addr
  cap : Nat
def Wc.cells (c : Wc) : List Value := [.int .i64 c.kind, .string c.id, .string c.text, .slice c.at_ c.miss.length c.cap]
def Wc.val (c : Wc) : Value := .agg c.cells.toArray
structure WcOk (W : World) (c : Wc) : Prop where
  kind : -9223372036854775808 ≤ c.kind ∧ c.kind ≤ 9223372036854775807
  id : c.id.size ≤ 140737488351232
  text : c.text.size ≤ 140737488351232
  miss : StrsAt W c.at_ c.miss
  nil : c.at_ = none → c.cap = 0
theorem WcOk.below {W W' : World} {c : Wc} (h : WcOk W c) (hb : Below W.heap.size W W') : WcOk W' c := ⟨h.kind, h.id, h.text, h.miss.below hb, h.nil⟩
structure WcsAt (W : World) (a : Option Addr) (l : List Wc) : Prop where
  len : l.length ≤ maxLen
  ok : ∀ c ∈ l, WcOk W c
  cells : l = [] ∨ ∃ b off, a = some ⟨b, off, none⟩ ∧ b < W.heap.size ∧ ∀ i c, l[i]? = some c → ∀ j, j < 4 → W.cell? ⟨b, off + i * 4 + j, none⟩ = c.cells[j]?
theorem WcsAt.at_ {W : World} {a : Option Addr} {l : List Wc} (h : WcsAt W a l) {k : Nat} (hk : k < l.length) : ∃ b off, a = some ⟨b, off, none⟩ ∧ b < W.heap.size ∧ ∀ j, j < 4 → W.cell? ⟨b, off + k * 4 + j, none⟩ = l[k].cells[j]? := by
  rcases h.cells with h0 | ⟨b, off, e, hb, hc⟩
  · rw [h0] at hk; cases hk
  · exact ⟨b, off, e, hb, hc k l[k] (by simp [hk])⟩
theorem WcsAt.below {W W' : World} {a : Option Addr} {l : List Wc} (h : WcsAt W a l) (hb : Below W.heap.size W W') : WcsAt W' a l := by
  refine ⟨h.len, fun c hc => (h.ok c hc).below hb, ?_⟩
  rcases h.cells with h0 | ⟨b, off, e, hl, hc⟩
  · exact .inl h0
  · exact .inr ⟨b, off, e, Nat.lt_of_lt_of_le hl hb.size, fun i c hi j hj => (hb.cell (p := ⟨b, off + i * 4 + j, none⟩) hl).trans (hc i c hi j hj)⟩

structure En where
  id : ByteArray
  par : List ByteArray
  at_ : Option Addr
  cap : Nat
def En.cells (c : En) : List Value := [.string c.id, .slice c.at_ c.par.length c.cap]
def En.val (c : En) : Value := .agg c.cells.toArray
structure EnOk (W : World) (c : En) : Prop where
  id : c.id.size ≤ 140737488351232
  par : StrsAt W c.at_ c.par
  nil : c.at_ = none → c.cap = 0
theorem EnOk.below {W W' : World} {c : En} (h : EnOk W c) (hb : Below W.heap.size W W') : EnOk W' c := ⟨h.id, h.par.below hb, h.nil⟩
set_option maxRecDepth 100000 in
theorem en_of {H : Type} {enc : TypeId × Value → H} {W : World} {fuel : Nat} {l : List Value} {x : DataW H × List MemPlace} (hcs : l.length = 2)
    (hv : DataW.trod enc Try.prog W 0 (fun _ => true) true fuel 32 l = some x) (hlo : Lo 32 x.1) : ∃ c : En, l = c.cells ∧ EnOk W c := by
  match l, hcs with
  | [v0, v1], _ =>
  obtain ⟨xs, n, _, rfl, hl, hlen, hf⟩ := DataW.trod_struct Try.underlying32 hv
  match xs, hlen with
  | [y0, y1], _ =>
  have t0 := hf 0 _ rfl
  have t1 := hf 1 _ rfl
  have l0 := lo_part (j := 0) Try.underlying32 hlo rfl rfl
  have l1 := lo_part (j := 1) Try.underlying32 hlo rfl rfl
  have cs : Try.prog.cellsOf 9 = 1 := by kernel_rfl
  have cl : Try.prog.cellsOf 30 = 1 := by kernel_rfl
  simp only [cs, cl, List.drop_zero, List.drop_succ_cons, List.take_succ_cons, List.take_zero, List.getElem?_cons_zero, List.getElem?_cons_succ, List.getElem_toArray, List.getElem_cons_zero, List.getElem_cons_succ] at t0 t1
  obtain ⟨a0, e0, x0, _⟩ := DataW.trod_string Try.underlying9 t0
  obtain ⟨a1, b1, c1, e1, n1, w1⟩ := strs_of t1 l1
  simp only [List.cons.injEq, and_true] at e0
  subst e0 e1
  exact ⟨⟨a0, b1, a1, c1⟩, rfl, ⟨(by rw [x0] at l0; exact lo_string l0), w1, n1⟩⟩
set_option maxRecDepth 100000 in
theorem open_en {H : Type} {enc : TypeId × Value → H} {W : World} {base : Nat} {v : Value} {d : DataW H} {ps : List MemPlace}
    (hok : Value.okWide Try.prog W .any base 32 v) (hT : DataW.Trod enc Try.prog W 0 (fun _ => true) true 32 v d ps) (hlo : Lo 32 d) : ∃ c : En, v = c.val ∧ EnOk W c := by
  obtain ⟨fuel, hv⟩ := hT
  obtain ⟨cs, rfl, hcs⟩ := okWide_struct Try.underlying32 hok
  have c5 : Try.prog.cellsOf 32 = 2 := by kernel_rfl
  rw [c5] at hcs
  obtain ⟨l⟩ := cs
  have hvc : (Value.agg ⟨l⟩).cells.toList = l := rfl
  rw [hvc] at hv
  obtain ⟨c, rfl, hc⟩ := en_of (by simpa using hcs) hv hlo
  exact ⟨c, rfl, hc⟩
structure EnsAt (W : World) (a : Option Addr) (l : List En) : Prop where
  len : l.length ≤ maxLen
  ok : ∀ c ∈ l, EnOk W c
  cells : l = [] ∨ ∃ b off, a = some ⟨b, off, none⟩ ∧ b < W.heap.size ∧ ∀ i c, l[i]? = some c → ∀ j, j < 2 → W.cell? ⟨b, off + i * 2 + j, none⟩ = c.cells[j]?
theorem ens_list {W : World} {H : Type} {enc : TypeId × Value → H} {n : Nat} (a : Addr) (f : Nat → Option (DataW H × List MemPlace)) : ∀ len, (∀ i, i < len → ∃ cs' y, W.cells? 0 (a.add (i * 2)) 2 = some cs' ∧ DataW.trod enc Try.prog W 0 (fun _ => true) true n 32 cs' = some y ∧ Lo 32 y.1) →
    ∃ l : List En, l.length = len ∧ ∀ i c, l[i]? = some c → EnOk W c ∧ W.cells? 0 (a.add (i * 2)) 2 = some c.cells
  | 0, _ => ⟨[], rfl, fun i c h => by simp at h⟩
  | len + 1, h => by
    obtain ⟨l, hl, hc⟩ := ens_list (enc := enc) (n := n) a f len (fun i hi => h i (by omega))
    obtain ⟨cs', y, h1, h2, h3⟩ := h len (by omega)
    obtain ⟨_, hlen, _⟩ := World.cells?_some h1
    obtain ⟨c, rfl, hok⟩ := en_of hlen h2 h3
    refine ⟨l ++ [c], by simp [hl], fun i c' hi => ?_⟩
    by_cases e : i < len
    · rw [List.getElem?_append_left (by omega)] at hi
      exact hc i c' hi
    · have hi2 := (List.getElem?_eq_some_iff.1 hi).1
      simp [hl] at hi2
      obtain rfl : i = len := by omega
      rw [List.getElem?_append_right (by omega), hl] at hi
      simp at hi
      subst hi
      exact ⟨hok, h1⟩
set_option maxRecDepth 100000 in
theorem ens_of {H : Type} {enc : TypeId × Value → H} {W : World} {fuel len cap : Nat} {a : Option Addr} {x : DataW H × List MemPlace} (h : DataW.trod enc Try.prog W 0 (fun _ => true) true fuel 22 [.slice a len cap] = some x) (hlo : Lo 22 x.1) :
    ∃ l : List En, len = l.length ∧ EnsAt W a l := by
  have c5 : Try.prog.cellsOf 32 = 2 := by kernel_rfl
  rcases Go.Deep.open_slice Try.underlying22 h with ⟨h2, _⟩ | ⟨ad, len', cap', m, n, D, Pl, h2, _, hlc, hcm, hm, rfl, hx⟩
  · simp only [List.cons.injEq, and_true, Value.slice.injEq] at h2
    obtain ⟨rfl, rfl, rfl⟩ := h2
    exact ⟨[], rfl, ⟨Nat.zero_le _, fun c hc => (by cases hc), .inl rfl⟩⟩
  · simp only [List.cons.injEq, and_true, Value.slice.injEq] at h2
    obtain ⟨rfl, rfl, rfl⟩ := h2
    have hm2 : m = cap := hm.trans (if_pos rfl)
    rw [c5] at hx
    obtain ⟨l, hl, hc⟩ := ens_list (W := W) (enc := enc) (n := n) ad (fun i => some (D i, Pl i)) len (fun i hi => by
      obtain ⟨cs', h3, h4⟩ := hx i (by omega)
      exact ⟨cs', _, h3, h4, lo_elem Try.underlying22 hlo (List.mem_map.2 ⟨i, List.mem_range.2 hi, rfl⟩)⟩)
    refine ⟨l, hl.symm, ⟨by rw [hl]; omega, fun c hcm => ?_, ?_⟩⟩
    · obtain ⟨i, hi⟩ := List.getElem?_of_mem hcm
      exact (hc i c hi).1
    · by_cases hz : len = 0
      · exact .inl (List.eq_nil_of_length_eq_zero (hl.trans hz))
      · obtain ⟨c0, hc0⟩ : ∃ c0, l[0]? = some c0 := ⟨l[0]'(by omega), by simp [show 0 < l.length by omega]⟩
        obtain ⟨_, _, hcell⟩ := World.cells?_some (hc 0 c0 hc0).2
        have hcell0 : W.cell? ((ad.add (0 * 2)).add 0) = some (.string c0.id) := hcell 0 (by omega)
        obtain ⟨b, off, spot⟩ := ad
        have hspot : spot = none := by
          have : W.cell? (((⟨b, off, spot⟩ : Addr).add (0 * 2)).add 0) = some (.string c0.id) := hcell0
          simpa [Addr.add] using World.cell?_spot this
        subst hspot
        refine .inr ⟨b, off, rfl, ?_, fun i c hi j hj => ?_⟩
        · have h3 : W.cell? ⟨b, off, none⟩ = some (.string c0.id) := by simpa [Addr.add] using hcell0
          rcases Nat.lt_or_ge b W.heap.size with h1 | h1
          · exact h1
          · simp [World.cell?, Array.getElem?_eq_none h1] at h3
        · obtain ⟨_, _, hcell⟩ := World.cells?_some (hc i c hi).2
          have h3 := hcell j hj
          rw [Go.WideShapes.add_plain, Go.WideShapes.add_plain] at h3
          exact h3
theorem EnsAt.at_ {W : World} {a : Option Addr} {l : List En} (h : EnsAt W a l) {k : Nat} (hk : k < l.length) : ∃ b off, a = some ⟨b, off, none⟩ ∧ b < W.heap.size ∧ ∀ j, j < 2 → W.cell? ⟨b, off + k * 2 + j, none⟩ = l[k].cells[j]? := by
  rcases h.cells with h0 | ⟨b, off, e, hb, hc⟩
  · rw [h0] at hk; cases hk
  · exact ⟨b, off, e, hb, hc k l[k] (by simp [hk])⟩
theorem EnsAt.below {W W' : World} {a : Option Addr} {l : List En} (h : EnsAt W a l) (hb : Below W.heap.size W W') : EnsAt W' a l := by
  refine ⟨h.len, fun c hc => (h.ok c hc).below hb, ?_⟩
  rcases h.cells with h0 | ⟨b, off, e, hl, hc⟩
  · exact .inl h0
  · exact .inr ⟨b, off, e, Nat.lt_of_lt_of_le hl hb.size, fun i c hi j hj => (hb.cell (p := ⟨b, off + i * 2 + j, none⟩) hl).trans (hc i c hi j hj)⟩
end Go.Proofs.Ytabongfoeoideaa
