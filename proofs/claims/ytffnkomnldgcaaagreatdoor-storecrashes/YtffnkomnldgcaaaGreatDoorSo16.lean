/-
  Acts of palaverlaw11 among a law's arguments, opened; the law's own great.
-/
import Derived.Test.YtffnkomnldgcaaaGreatDoorSo15
import Derived.ProofKit
import Derived.OpenShut
import Derived.ShutString
import Derived.ChangeSlices
import Derived.Deep.Slices
namespace Go.Proofs.YtffnkomnldgcaaaGreatDoor
open Go.ChangeShapes Go.WideShapes Go.ChangeAt Go.RowKit Go.Pal Go.Pal.Dk

/-- An act. -/
structure Sa where
  kind : Int
  text : ByteArray
  n : Int
def Sa.cells (c : Sa) : List Value := [.int .i64 c.kind, .string c.text, .int .i64 c.n]
def Sa.val (c : Sa) : Value := .agg c.cells.toArray
structure SaOk (c : Sa) : Prop where
  kind : -9223372036854775808 ≤ c.kind ∧ c.kind ≤ 9223372036854775807
  n : -9223372036854775808 ≤ c.n ∧ c.n ≤ 9223372036854775807
  text : c.text.size ≤ maxLen
set_option maxRecDepth 100000 in
theorem sact_of {H : Type} {enc : TypeId × Value → H} {W : World} {fuel : Nat} {l : List Value} {x : DataW H × List MemPlace} (hcs : l.length = 3)
    (hv : DataW.trod enc Tryz.prog W 0 (fun _ => true) true fuel 42 l = some x) : ∃ c : Sa, l = c.cells ∧ SaOk c := by
  match l, hcs with
  | [v0, v1, v2], _ =>
  obtain ⟨xs, n, _, hx, hl, hlen, hf⟩ := DataW.trod_struct Tryz.underlying42 hv
  match xs, hlen with
  | [y0, y1, y2], _ =>
  have t0 := hf 0 _ rfl
  have t1 := hf 1 _ rfl
  have t2 := hf 2 _ rfl
  have ci : Tryz.prog.cellsOf 3 = 1 := by kernel_rfl
  have cs : Tryz.prog.cellsOf 9 = 1 := by kernel_rfl
  simp only [ci, cs, List.drop_zero, List.drop_succ_cons, List.take_succ_cons, List.take_zero, List.getElem?_cons_zero, List.getElem?_cons_succ, List.getElem_toArray, List.getElem_cons_zero, List.getElem_cons_succ] at t0 t1 t2
  obtain ⟨k, e0, _, wk⟩ := DataW.trod_int Tryz.underlying3 t0
  obtain ⟨nm, e1, _, znm⟩ := DataW.trod_string Tryz.underlying9 t1
  obtain ⟨m, e3, _, wm⟩ := DataW.trod_int Tryz.underlying3 t2
  simp only [List.cons.injEq, and_true] at e0 e1 e3
  subst e0 e1 e3
  exact ⟨⟨k, nm, m⟩, rfl, ⟨bounds_i64 wk, bounds_i64 wm, znm⟩⟩
set_option maxRecDepth 100000 in
theorem open_sact {H : Type} {enc : TypeId × Value → H} {W : World} {base : Nat} {v : Value} {d : DataW H} {ps : List MemPlace}
    (hok : Value.okWide Tryz.prog W .any base 42 v) (hT : DataW.Trod enc Tryz.prog W 0 (fun _ => true) true 42 v d ps) : ∃ c : Sa, v = c.val ∧ SaOk c := by
  obtain ⟨fuel, hv⟩ := hT
  obtain ⟨cs, rfl, hcs⟩ := okWide_struct Tryz.underlying42 hok
  have c5 : Tryz.prog.cellsOf 42 = 3 := by kernel_rfl
  rw [c5] at hcs
  obtain ⟨l⟩ := cs
  have hvc : (Value.agg ⟨l⟩).cells.toList = l := rfl
  rw [hvc] at hv
  obtain ⟨c, rfl, hc⟩ := sact_of (by simpa using hcs) hv
  exact ⟨c, rfl, hc⟩
/-- A row of acts that came in. -/
structure SactsAt (W : World) (a : Option Addr) (l : List Sa) : Prop where
  len : l.length ≤ maxLen
  ok : ∀ c ∈ l, SaOk c
  cells : l = [] ∨ ∃ b off, a = some ⟨b, off, none⟩ ∧ b < W.heap.size ∧ ∀ i c, l[i]? = some c → ∀ j, j < 3 → W.cell? ⟨b, off + i * 3 + j, none⟩ = c.cells[j]?
theorem sacts_list {W : World} {H : Type} {enc : TypeId × Value → H} {n : Nat} (a : Addr) (f : Nat → Option (DataW H × List MemPlace)) : ∀ len, (∀ i, i < len → ∃ cs', W.cells? 0 (a.add (i * 3)) 3 = some cs' ∧ DataW.trod enc Tryz.prog W 0 (fun _ => true) true n 42 cs' = f i ∧ (f i).isSome = true) →
    ∃ l : List Sa, l.length = len ∧ ∀ i c, l[i]? = some c → SaOk c ∧ W.cells? 0 (a.add (i * 3)) 3 = some c.cells
  | 0, _ => ⟨[], rfl, fun i c h => by simp at h⟩
  | len + 1, h => by
    obtain ⟨l, hl, hc⟩ := sacts_list a f len (fun i hi => h i (by omega))
    obtain ⟨cs', h1, h2, h3⟩ := h len (by omega)
    obtain ⟨y, hy⟩ := Option.isSome_iff_exists.1 h3
    obtain ⟨_, hlen, _⟩ := World.cells?_some h1
    obtain ⟨c, rfl, hok⟩ := sact_of hlen (h2.trans hy)
    refine ⟨l ++ [c], by simp [hl], fun i c' hi => ?_⟩
    by_cases e : i < len
    · rw [List.getElem?_append_left (by omega)] at hi
      exact hc i c' hi
    · have hi2 := (List.getElem?_eq_some_iff.1 hi).1
      simp [hl] at hi2
      obtain rfl : i = len := by omega
      rw [List.getElem?_append_right (by omega), hl] at hi
      simp at hi
      subst hi
      exact ⟨hok, h1⟩
set_option maxRecDepth 100000 in
theorem sacts_of {H : Type} {enc : TypeId × Value → H} {W : World} {fuel len cap : Nat} {a : Option Addr} {x : DataW H × List MemPlace} (h : DataW.trod enc Tryz.prog W 0 (fun _ => true) true fuel 22 [.slice a len cap] = some x) :
    ∃ l : List Sa, len = l.length ∧ SactsAt W a l := by
  have c5 : Tryz.prog.cellsOf 42 = 3 := by kernel_rfl
  rcases Go.Deep.open_slice Tryz.underlying22 h with ⟨h2, _⟩ | ⟨ad, len', cap', m, n, D, Pl, h2, _, hlc, hcm, hm, _, hx⟩
  · simp only [List.cons.injEq, and_true, Value.slice.injEq] at h2
    obtain ⟨rfl, rfl, rfl⟩ := h2
    exact ⟨[], rfl, ⟨Nat.zero_le _, fun c hc => (by cases hc), .inl rfl⟩⟩
  · simp only [List.cons.injEq, and_true, Value.slice.injEq] at h2
    obtain ⟨rfl, rfl, rfl⟩ := h2
    have hm2 : m = cap := hm.trans (if_pos rfl)
    rw [c5] at hx
    obtain ⟨l, hl, hc⟩ := sacts_list (W := W) (enc := enc) (n := n) ad (fun i => some (D i, Pl i)) len (fun i hi => by
      obtain ⟨cs', h3, h4⟩ := hx i (by omega)
      exact ⟨cs', h3, h4, rfl⟩)
    refine ⟨l, hl.symm, ⟨by rw [hl]; omega, fun c hcm => ?_, ?_⟩⟩
    · obtain ⟨i, hi⟩ := List.getElem?_of_mem hcm
      exact (hc i c hi).1
    · by_cases hz : len = 0
      · exact .inl (List.eq_nil_of_length_eq_zero (hl.trans hz))
      · obtain ⟨c0, hc0⟩ : ∃ c0, l[0]? = some c0 := ⟨l[0]'(by omega), by simp [show 0 < l.length by omega]⟩
        obtain ⟨_, _, hcell⟩ := World.cells?_some (hc 0 c0 hc0).2
        have hcell0 : W.cell? ((ad.add (0 * 3)).add 0) = some (.int .i64 c0.kind) := hcell 0 (by omega)
        obtain ⟨b, off, spot⟩ := ad
        have hspot : spot = none := by
          have : W.cell? (((⟨b, off, spot⟩ : Addr).add (0 * 3)).add 0) = some (.int .i64 c0.kind) := hcell0
          simpa [Addr.add] using World.cell?_spot this
        subst hspot
        refine .inr ⟨b, off, rfl, ?_, fun i c hi j hj => ?_⟩
        · have h3 : W.cell? ⟨b, off, none⟩ = some (.int .i64 c0.kind) := by simpa [Addr.add] using hcell0
          rcases Nat.lt_or_ge b W.heap.size with h1 | h1
          · exact h1
          · simp [World.cell?, Array.getElem?_eq_none h1] at h3
        · obtain ⟨_, _, hcell⟩ := World.cells?_some (hc i c hi).2
          have h3 := hcell j hj
          rw [add_plain, add_plain] at h3
          exact h3
theorem SactsAt.at_ {W : World} {a : Option Addr} {l : List Sa} (h : SactsAt W a l) {k : Nat} (hk : k < l.length) : ∃ b off, a = some ⟨b, off, none⟩ ∧ b < W.heap.size ∧ ∀ j, j < 3 → W.cell? ⟨b, off + k * 3 + j, none⟩ = l[k].cells[j]? := by
  rcases h.cells with h0 | ⟨b, off, e, hb, hc⟩
  · rw [h0] at hk; cases hk
  · exact ⟨b, off, e, hb, hc k l[k] (by simp [hk])⟩
theorem SactsAt.below {W W' : World} {a : Option Addr} {l : List Sa} (h : SactsAt W a l) (hb : Below W.heap.size W W') : SactsAt W' a l := by
  refine ⟨h.len, h.ok, ?_⟩
  rcases h.cells with h0 | ⟨b, off, e, hl, hc⟩
  · exact .inl h0
  · exact .inr ⟨b, off, e, Nat.lt_of_lt_of_le hl hb.size, fun i c hi j hj => (hb.cell (p := ⟨b, off + i * 3 + j, none⟩) hl).trans (hc i c hi j hj)⟩
def sgreatA (c : Sa) : Bool := (decide (1000 < c.text.size) && decide (c.text.size ≤ 65534)) || decide (100000 < c.text.size)
def sgreatB (l : List Sa) : Bool := decide (40 < l.length) || l.any sgreatA
theorem sgreat_no {l : List Sa} (h : sgreatB l = false) : l.length ≤ 40 ∧ ∀ c ∈ l, (c.text.size ≤ 1000 ∨ 65534 < c.text.size) ∧ c.text.size ≤ 100000 := by
  unfold sgreatB at h
  rw [Bool.or_eq_false_iff] at h
  refine ⟨by have := h.1; simp at this; omega, fun c hc => ?_⟩
  have := List.any_eq_false.1 h.2 c hc
  simp [sgreatA] at this
  omega
theorem sany_take (l : List Sa) (k : Nat) (h : k < l.length) : (l.take (k + 1)).any sgreatA = ((l.take k).any sgreatA || sgreatA l[k]) := by
  rw [List.take_succ_eq_append_getElem h, List.any_append]; simp

set_option linter.unusedVariables false in
set_option maxHeartbeats 1000000 in
set_option maxRecDepth 100000 in
theorem sgreat_any (w : World) (a : Option Addr) (cap : Nat) (l : List Sa) (h : SactsAt w a l) :
    Calls Tryz.prog 4 #[.slice a l.length cap] w fun e w' => e = .returned (.bool (sgreatB l)) ∧ w' = w := by
  have hlen := h.len
  unfold maxLen at hlen
  by_cases h60 : 40 < l.length
  · have d1 : decide (40 < (l.length : Int)) = true := decide_eq_true (by omega)
    have HB := Lib.hid (show sgreatB l = true by unfold sgreatB; rw [decide_eq_true h60, Bool.true_or])
    clear h60 h
    go_enter Tryz.func4, Tryz.ntmps4
    go_wp2
    go_ret
    exact ⟨by rw [HB.out]; rfl, rfl⟩
  have d1 : decide (40 < (l.length : Int)) = false := decide_eq_false (by omega)
  have HB := Lib.hid (show sgreatB l = l.any sgreatA by unfold sgreatB; rw [decide_eq_false h60, Bool.false_or])
  have HAT := Lib.hid (fun k hk => h.at_ (k := k) hk)
  have HOK := Lib.hid h.ok
  have HTK := Lib.hid (sany_take l)
  have HAL := Lib.hid (show l.take l.length = l from List.take_length)
  have HANT := Lib.hid (show ∀ k (hk : k < l.length), sgreatA l[k] = true → l.any sgreatA = true from fun k hk hh => List.any_eq_true.2 ⟨l[k], List.getElem_mem hk, hh⟩)
  clear h h60
  go_enter Tryz.func4, Tryz.ntmps4
  go_wp2
  go_loop [3] (fun i => ∃ k : Nat, k ≤ l.length ∧ i = .int .i64 k ∧ (l.take k).any sgreatA = false) (fun i => l.length - (intOf i).toNat)
  case atStart => exact ⟨0, Nat.zero_le _, rfl, rfl⟩
  case round =>
    obtain ⟨k, hk, rfl, hany⟩ := hrel
    have HANY := Lib.hid hany
    clear hany
    by_cases hlt : k < l.length
    · obtain ⟨b, off, rfl, _, hcl⟩ := HAT.out k hlt
      have hc := HOK.out l[k] (List.getElem_mem hlt)
      have hz1 := hc.text
      unfold maxLen at hz1
      have x1 := hcl 1 (by decide)
      simp only [Sa.cells, List.getElem?_cons_zero, List.getElem?_cons_succ] at x1
      have HT := Lib.hid (HTK.out k hlt)
      have HG := Lib.hid (HANT.out k hlt)
      have HGA := Lib.hid (show sgreatA l[k] = ((decide (1000 < l[k].text.size) && decide (l[k].text.size ≤ 65534)) || decide (100000 < l[k].text.size)) from rfl)
      generalize l[k].text = tx at *
      clear hcl hc
      have i1 : (k : Int) < (l.length : Int) := by omega
      have i0 : (0 : Int) ≤ (k : Int) := by omega
      by_cases g1 : 1000 < tx.size
      · have g1i : (1000 : Int) < (tx.size : Int) := by omega
        by_cases g2 : tx.size ≤ 65534
        · have g2i : (tx.size : Int) ≤ 65534 := by omega
          have HR := Lib.hid (HG.out (by rw [HGA.out, decide_eq_true g1, decide_eq_true g2]; rfl))
          go_wp2
          go_ret
          exact ⟨by rw [HB.out, HR.out]; rfl, rfl⟩
        · have g2i : ¬ ((tx.size : Int) ≤ 65534) := by omega
          by_cases g3 : 100000 < tx.size
          · have g3i : (100000 : Int) < (tx.size : Int) := by omega
            have HR := Lib.hid (HG.out (by rw [HGA.out, decide_eq_true g3, Bool.or_true]))
            go_wp2
            go_ret
            exact ⟨by rw [HB.out, HR.out]; rfl, rfl⟩
          · have g3i : ¬ ((100000 : Int) < (tx.size : Int)) := by omega
            have HR := Lib.hid (show (l.take (k + 1)).any sgreatA = false by rw [HT.out, HANY.out, HGA.out, decide_eq_false g2, decide_eq_false g3]; simp)
            go_wp2
            go_round
            case rel => exact ⟨k + 1, hlt, by go_num, HR.out⟩
            case measure => simp [intOf]; omega
      · have g1i : ¬ ((1000 : Int) < (tx.size : Int)) := by omega
        have g3 : ¬ (100000 < tx.size) := by omega
        have g3i : ¬ ((100000 : Int) < (tx.size : Int)) := by omega
        have HR := Lib.hid (show (l.take (k + 1)).any sgreatA = false by rw [HT.out, HANY.out, HGA.out, decide_eq_false g1, decide_eq_false g3]; rfl)
        go_wp2
        go_round
        case rel => exact ⟨k + 1, hlt, by go_num, HR.out⟩
        case measure => simp [intOf]; omega
    · obtain rfl : k = l.length := by omega
      have HR := Lib.hid (show l.any sgreatA = false by have := HANY.out; rwa [HAL.out] at this)
      go_wp2
      go_ret
      exact ⟨by rw [HB.out, HR.out]; rfl, rfl⟩
end Go.Proofs.YtffnkomnldgcaaaGreatDoor
