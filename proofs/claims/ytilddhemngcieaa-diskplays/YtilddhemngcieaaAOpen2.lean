/-
  Rows of acts among a law's arguments, opened; the law's own great and do.
-/
import Derived.Test.YtilddhemngcieaaAOpen
namespace Go.Proofs.Ytilddhemngcieaa
open Go.ChangeShapes Go.WideShapes Go.ChangeAt Go.RowKit Go.Pal Go.Pal.Dk

/-- A row of acts that came in. -/
structure ActsAt (W : World) (a : Option Addr) (l : List Ac) : Prop where
  len : l.length ≤ maxLen
  ok : ∀ c ∈ l, AcOk W c
  cells : l = [] ∨ ∃ b off, a = some ⟨b, off, none⟩ ∧ b < W.heap.size ∧ ∀ i c, l[i]? = some c → ∀ j, j < 5 → W.cell? ⟨b, off + i * 5 + j, none⟩ = c.cells[j]?
theorem acts_list {W : World} {H : Type} {enc : TypeId × Value → H} {n : Nat} (a : Addr) (f : Nat → Option (DataW H × List MemPlace)) : ∀ len, (∀ i, i < len → ∃ cs', W.cells? 0 (a.add (i * 5)) 5 = some cs' ∧ DataW.trod enc Try.prog W 0 (fun _ => true) true n 51 cs' = f i ∧ (f i).isSome = true) →
    ∃ l : List Ac, l.length = len ∧ ∀ i c, l[i]? = some c → AcOk W c ∧ W.cells? 0 (a.add (i * 5)) 5 = some c.cells
  | 0, _ => ⟨[], rfl, fun i c h => by simp at h⟩
  | len + 1, h => by
    obtain ⟨l, hl, hc⟩ := acts_list a f len (fun i hi => h i (by omega))
    obtain ⟨cs', h1, h2, h3⟩ := h len (by omega)
    obtain ⟨y, hy⟩ := Option.isSome_iff_exists.1 h3
    obtain ⟨_, hlen, _⟩ := World.cells?_some h1
    obtain ⟨c, rfl, hok⟩ := act_of hlen (h2.trans hy)
    refine ⟨l ++ [c], by simp [hl], fun i c' hi => ?_⟩
    by_cases e : i < len
    · rw [List.getElem?_append_left (by omega)] at hi
      exact hc i c' hi
    · have hi2 := (List.getElem?_eq_some_iff.1 hi).1
      simp [hl] at hi2
      obtain rfl : i = len := by omega
      rw [List.getElem?_append_right (by omega), hl] at hi
      simp at hi
      subst hi
      exact ⟨hok, h1⟩
set_option maxRecDepth 100000 in
theorem acts_of {H : Type} {enc : TypeId × Value → H} {W : World} {fuel len cap : Nat} {a : Option Addr} {x : DataW H × List MemPlace} (h : DataW.trod enc Try.prog W 0 (fun _ => true) true fuel 38 [.slice a len cap] = some x) :
    ∃ l : List Ac, len = l.length ∧ ActsAt W a l := by
  have c5 : Try.prog.cellsOf 51 = 5 := by kernel_rfl
  rcases Go.Deep.open_slice Try.underlying38 h with ⟨h2, _⟩ | ⟨ad, len', cap', m, n, D, Pl, h2, _, hlc, hcm, hm, _, hx⟩
  · simp only [List.cons.injEq, and_true, Value.slice.injEq] at h2
    obtain ⟨rfl, rfl, rfl⟩ := h2
    exact ⟨[], rfl, ⟨Nat.zero_le _, fun c hc => (by cases hc), .inl rfl⟩⟩
  · simp only [List.cons.injEq, and_true, Value.slice.injEq] at h2
    obtain ⟨rfl, rfl, rfl⟩ := h2
    have hm2 : m = cap := hm.trans (if_pos rfl)
    rw [c5] at hx
    obtain ⟨l, hl, hc⟩ := acts_list (W := W) (enc := enc) (n := n) ad (fun i => some (D i, Pl i)) len (fun i hi => by
      obtain ⟨cs', h3, h4⟩ := hx i (by omega)
      exact ⟨cs', h3, h4, rfl⟩)
    refine ⟨l, hl.symm, ⟨by rw [hl]; omega, fun c hcm => ?_, ?_⟩⟩
    · obtain ⟨i, hi⟩ := List.getElem?_of_mem hcm
      exact (hc i c hi).1
    · by_cases hz : len = 0
      · exact .inl (List.eq_nil_of_length_eq_zero (hl.trans hz))
      · obtain ⟨c0, hc0⟩ : ∃ c0, l[0]? = some c0 := ⟨l[0]'(by omega), by simp [show 0 < l.length by omega]⟩
        obtain ⟨_, _, hcell⟩ := World.cells?_some (hc 0 c0 hc0).2
        have hcell0 : W.cell? ((ad.add (0 * 5)).add 0) = some (.int .i64 c0.kind) := hcell 0 (by omega)
        obtain ⟨b, off, spot⟩ := ad
        have hspot : spot = none := by
          have : W.cell? (((⟨b, off, spot⟩ : Addr).add (0 * 5)).add 0) = some (.int .i64 c0.kind) := hcell0
          simpa [Addr.add] using World.cell?_spot this
        subst hspot
        refine .inr ⟨b, off, rfl, ?_, fun i c hi j hj => ?_⟩
        · have h3 : W.cell? ⟨b, off, none⟩ = some (.int .i64 c0.kind) := by simpa [Addr.add] using hcell0
          rcases Nat.lt_or_ge b W.heap.size with h1 | h1
          · exact h1
          · simp [World.cell?, Array.getElem?_eq_none h1] at h3
        · obtain ⟨_, _, hcell⟩ := World.cells?_some (hc i c hi).2
          have h3 := hcell j hj
          rw [add_plain, add_plain] at h3
          exact h3
def greatA (c : Ac) : Bool := decide (500 < c.data.size) || decide (500 < c.name.size)
def greatB (l : List Ac) : Bool := decide (60 < l.length) || l.any greatA
theorem great_no {l : List Ac} (h : greatB l = false) : l.length ≤ 60 ∧ ∀ c ∈ l, c.data.size ≤ 500 ∧ c.name.size ≤ 500 := by
  unfold greatB at h
  rw [Bool.or_eq_false_iff] at h
  refine ⟨by have := h.1; simp at this; omega, fun c hc => ?_⟩
  have := List.any_eq_false.1 h.2 c hc
  simp [greatA] at this
  exact this
theorem any_take (l : List Ac) (k : Nat) (h : k < l.length) : (l.take (k + 1)).any greatA = ((l.take k).any greatA || greatA l[k]) := by
  rw [List.take_succ_eq_append_getElem h, List.any_append]; simp
theorem ActsAt.at_ {W : World} {a : Option Addr} {l : List Ac} (h : ActsAt W a l) {k : Nat} (hk : k < l.length) : ∃ b off, a = some ⟨b, off, none⟩ ∧ b < W.heap.size ∧ ∀ j, j < 5 → W.cell? ⟨b, off + k * 5 + j, none⟩ = l[k].cells[j]? := by
  rcases h.cells with h0 | ⟨b, off, e, hb, hc⟩
  · rw [h0] at hk; cases hk
  · exact ⟨b, off, e, hb, hc k l[k] (by simp [hk])⟩

set_option maxHeartbeats 1000000 in
set_option maxRecDepth 100000 in
theorem great_any (w : World) (a : Option Addr) (cap : Nat) (l : List Ac) (h : ActsAt w a l) :
    Calls Try.prog 22 #[.slice a l.length cap] w fun e w' => e = .returned (.bool (greatB l)) ∧ w' = w := by
  have hlen := h.len
  unfold maxLen at hlen
  by_cases h60 : 60 < l.length
  · have d1 : decide (60 < (l.length : Int)) = true := decide_eq_true (by omega)
    have HB := Lib.hid (show greatB l = true by unfold greatB; rw [decide_eq_true h60, Bool.true_or])
    clear h60 h
    go_enter Try.func22, Try.ntmps22
    go_wp2
    go_ret
    exact ⟨by rw [HB.out]; rfl, rfl⟩
  have d1 : decide (60 < (l.length : Int)) = false := decide_eq_false (by omega)
  have HB := Lib.hid (show greatB l = l.any greatA by unfold greatB; rw [decide_eq_false h60, Bool.false_or])
  have HAT := Lib.hid (fun k hk => h.at_ (k := k) hk)
  have HOK := Lib.hid h.ok
  have HTK := Lib.hid (any_take l)
  have HAL := Lib.hid (show l.take l.length = l from List.take_length)
  clear h h60
  go_enter Try.func22, Try.ntmps22
  go_wp2
  go_loop [3] (fun i => ∃ k : Nat, k ≤ l.length ∧ i = .int .i64 k ∧ (l.take k).any greatA = false) (fun i => l.length - (intOf i).toNat)
  case atStart => exact ⟨0, Nat.zero_le _, rfl, rfl⟩
  case round =>
    obtain ⟨k, hk, rfl, hany⟩ := hrel
    have HANY := Lib.hid hany
    clear hany
    by_cases hlt : k < l.length
    · obtain ⟨b, off, rfl, _, hcl⟩ := HAT.out k hlt
      have hc := HOK.out l[k] (List.getElem_mem hlt)
      have hz1 := hc.name
      have hz2 := hc.data
      unfold maxLen at hz1 hz2
      have HS := Lib.hid (HTK.out k hlt)
      have HM := Lib.hid (show greatA l[k] = true → l.any greatA = true from fun e => List.any_eq_true.2 ⟨l[k], List.getElem_mem hlt, e⟩)
      have c1 := hcl 1 (by omega)
      have c2 := hcl 2 (by omega)
      unfold Ac.cells at c1 c2
      simp only [List.getElem?_cons_zero, List.getElem?_cons_succ] at c1 c2
      have HGA := Lib.hid (show greatA l[k] = (decide (500 < l[k].data.size) || decide (500 < l[k].name.size)) from rfl)
      generalize greatA l[k] = ga at *
      generalize l[k].data = dt at *
      generalize l[k].name = nm at *
      clear hcl hc
      by_cases g1 : 500 < dt.size
      · have e1 : decide (500 < (dt.size : Int)) = true := decide_eq_true (by omega)
        go_wp2
        go_ret
        exact ⟨by rw [HB.out, HM.out (by rw [HGA.out, decide_eq_true g1, Bool.true_or])]; rfl, rfl⟩
      · have e1 : decide (500 < (dt.size : Int)) = false := decide_eq_false (by omega)
        by_cases g2 : 500 < nm.size
        · have e2 : decide (500 < (nm.size : Int)) = true := decide_eq_true (by omega)
          go_wp2
          go_ret
          exact ⟨by rw [HB.out, HM.out (by rw [HGA.out, decide_eq_true g2, Bool.or_true])]; rfl, rfl⟩
        · have e2 : decide (500 < (nm.size : Int)) = false := decide_eq_false (by omega)
          go_wp2
          go_round
          case rel => exact ⟨k + 1, by omega, by go_num, by rw [HS.out, HANY.out, HGA.out, decide_eq_false g1, decide_eq_false g2]; rfl⟩
          case measure => simp [intOf]; omega
    · have hkl : k = l.length := by omega
      go_wp2
      go_ret
      exact ⟨by rw [HB.out, ← HANY.out, hkl, HAL.out]; rfl, rfl⟩

/-- What an act does to a disk: what is told, the error, and the disk behind it. -/
def doD (d : Dk) (c : Ac) : ByteArray × Int × Dk :=
  if c.kind = 0 then (ByteArray.empty, appendD d c.name c.data)
  else if c.kind = 1 then (ByteArray.empty, syncD d c.name)
  else if c.kind = 2 then (ByteArray.empty, cutD d c.name c.n)
  else if c.kind = 3 then ((readD d c.name).1, (readD d c.name).2, d)
  else if c.kind = 4 then (ByteArray.empty, 0, armD d c.n)
  else (ByteArray.empty, 0, crashD d c.keep)
theorem Went.box {w w' : World} {base D : Nat} {d d' : Dk} {L : Lay} {o : Obj} (h : Went (w.alloc o) base D d L d' w') : Went w base D d L d' w' := by
  obtain ⟨L', h1, h2, h3⟩ := h
  refine ⟨L', h1, ?_, fun x hx => ?_⟩
  · exact ((Off.refl (Foot D d.files L) w).alloc o).trans h2 (fun g _ hg => hg)
  · rcases h3 x hx with h4 | h4
    · exact .inl h4
    · exact .inr (by simp at h4; omega)
theorem Went.same {w w' : World} {base D : Nat} {d : Dk} {L : Lay} (h : DkAt w' base D d L) (hb : Below w.heap.size w w') : Went w base D d L d w' := ⟨L, h, Off.of_new hb _, fun _ hx => .inl hx⟩

set_option maxHeartbeats 1000000 in
set_option maxRecDepth 100000 in
theorem do_any {w : World} {base D : Nat} {d : Dk} {L : Lay} (h : DkAt w base D d L) (hlen : d.files.length ≤ 1000000000) (c : Ac) (hc : AcOk w c) (hkf : ∀ b off, c.keep ≠ [] → c.at_ = some ⟨b, off, none⟩ → ¬ Foot D d.files L b) :
    Calls Try.prog 25 #[.pointer (some ⟨D, 0, none⟩), c.val] w fun e w' => e = .returned (.tuple #[.string (doD d c).1, .int .i64 (doD d c).2.1]) ∧ Went w base D d L (doD d c).2.2 w' := by
  obtain ⟨hck, hcn, hz1, hz2, hrow, hkeep⟩ := hc
  obtain ⟨k, nm, dt, m, keep, a, cap⟩ := c
  simp only [] at hck hcn hz1 hz2 hrow hkeep hkf
  unfold Ac.val Ac.cells doD
  simp only []
  obtain ⟨w0, hw0⟩ : ∃ w0, w0 = w.alloc (.cells #[.int .i64 k, .string nm, .string dt, .int .i64 m, .slice a keep.length cap] 51) := ⟨_, rfl⟩
  have hd0 : DkAt w0 base D d L := by rw [hw0]; exact h.below (new_below w _) (Nat.le_refl _)
  have hBX := Lib.hid (fun w' d' (hw : Went w0 base D d L d' w') => Went.box (w := w) (o := .cells #[.int .i64 k, .string nm, .string dt, .int .i64 m, .slice a keep.length cap] 51) (by rw [hw0] at hw; exact hw))
  have hrow0 : IntRow w0 a keep := by
    rcases hrow with h0 | ⟨b, off, e, hb, hcl⟩
    · exact .inl h0
    · refine .inr ⟨b, off, e, by rw [hw0]; simp; omega, fun i hi => ?_⟩
      rw [hw0, (new_below w _).cell (p := ⟨b, off + i, none⟩) hb]; exact hcl i hi
  have B0 := Lib.hid (show Below w.heap.size w w0 by rw [hw0]; exact new_below w _)
  clear hrow h
  by_cases h0 : k = 0
  · subst h0
    have HC := Lib.hid (append_any hd0 nm dt hz1 hz2 hlen)
    simp only [if_true]
    clear hd0 hrow0
    go_enter Try.func25, Try.ntmps25
    go_wp2_with fail
    rw [← hw0]
    refine HC.out.mono ?_
    rintro e w1 ⟨rfl, hw⟩
    have HW := Lib.hid (hBX.out _ _ hw)
    clear hw hw0
    go_wp2
    go_ret2
    exact ⟨rfl, HW.out⟩
  have c0 : (k == 0) = false := beq_eq_false_iff_ne.2 h0
  rw [if_neg h0]
  by_cases h1 : k = 1
  · subst h1
    have HC := Lib.hid (sync_any hd0 nm hz1)
    simp only [if_true]
    clear hd0 hrow0
    go_enter Try.func25, Try.ntmps25
    go_wp2_with fail
    rw [← hw0]
    refine HC.out.mono ?_
    rintro e w1 ⟨rfl, hw⟩
    have HW := Lib.hid (hBX.out _ _ hw)
    clear hw hw0
    go_wp2
    go_ret2
    exact ⟨rfl, HW.out⟩
  have c1 : (k == 1) = false := beq_eq_false_iff_ne.2 h1
  rw [if_neg h1]
  by_cases h2 : k = 2
  · subst h2
    have HC := Lib.hid (cut_any hd0 nm hz1 m hcn.1 hcn.2)
    simp only [if_true]
    clear hd0 hrow0
    go_enter Try.func25, Try.ntmps25
    go_wp2_with fail
    rw [← hw0]
    refine HC.out.mono ?_
    rintro e w1 ⟨rfl, hw⟩
    have HW := Lib.hid (hBX.out _ _ hw)
    clear hw hw0
    go_wp2
    go_ret2
    exact ⟨rfl, HW.out⟩
  have c2 : (k == 2) = false := beq_eq_false_iff_ne.2 h2
  rw [if_neg h2]
  by_cases h3 : k = 3
  · subst h3
    have HC := Lib.hid (read_any hd0 nm hz1)
    have HW := Lib.hid (Went.same hd0 B0.out)
    simp only [if_true]
    clear hd0 hrow0
    go_enter Try.func25, Try.ntmps25
    go_wp2_with fail
    rw [← hw0]
    refine HC.out.mono ?_
    rintro e w1 ⟨rfl, rfl⟩
    clear hw0
    go_wp2
    go_ret2
    exact ⟨rfl, HW.out⟩
  have c3 : (k == 3) = false := beq_eq_false_iff_ne.2 h3
  rw [if_neg h3]
  by_cases h4 : k = 4
  · subst h4
    have HC := Lib.hid (arm_any hd0 m hcn.2)
    simp only [if_true]
    clear hd0 hrow0 h0 h1 h2 h3
    go_enter Try.func25, Try.ntmps25
    go_wp2_with fail
    rw [← hw0]
    refine HC.out.mono ?_
    rintro e w1 ⟨rfl, hd1, hg1⟩
    have HW := Lib.hid (hBX.out _ _ (Went.head hd1 rfl hg1))
    clear hd1 hg1 hw0
    go_wp2
    go_ret2
    exact ⟨rfl, HW.out⟩
  have c4 : (k == 4) = false := beq_eq_false_iff_ne.2 h4
  rw [if_neg h4]
  have HC := Lib.hid (crash_any hd0 hlen keep a cap hrow0 hkf hkeep.1 hkeep.2)
  clear hd0 hrow0 h0 h1 h2 h3 h4
  go_enter Try.func25, Try.ntmps25
  go_wp2_with fail
  rw [← hw0]
  refine HC.out.mono ?_
  rintro e w1 ⟨rfl, hw⟩
  have HW := Lib.hid (hBX.out _ _ hw)
  clear hw hw0
  go_wp2
  go_ret2
  exact ⟨rfl, HW.out⟩
end Go.Proofs.Ytilddhemngcieaa
