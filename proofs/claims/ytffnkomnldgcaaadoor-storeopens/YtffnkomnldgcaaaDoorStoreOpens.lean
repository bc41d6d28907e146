/-
  P11.1: of any records the state, or that one is none: for every list of texts.
  The tables of the library start as its text lays them (the card ties them).
-/
import Derived.Test.YtffnkomnldgcaaaDoorSo18
import Derived.Test.YtffnkomnldgcaaaDoorSo19
import Derived.Test.YtffnkomnldgcaaaDoorSo15
import Derived.Test.YtffnkomnldgcaaaDoorCards
import Derived.Test.YtffnkomnldgcaaaDoorTie
import Derived.Lib.LaidTab
import Derived.Deep.DeepHandedRow
import Derived.SliceStrings
import Derived.Deep.RegionHeld3
import Derived.ProofKit
import Derived.OpenShut
import Derived.ShutString
import Derived.ChangeOld
import Derived.SevenTiedAt
namespace Go.Proofs.YtffnkomnldgcaaaDoor.StoreOpens
open Go.ChangeShapes Go.WideShapes Go.ChangeAt Go.RowKit Go.Pal Go.Pal.Dk Go.Pal.Fr
open Go.ChangeMaps (open_string shut_string)
set_option linter.unusedVariables false

/-- What is kept from record to record. -/
structure Lo (w : World) (base D Lb : Nat) (l : List ByteArray) (k : Nat) (d : Dk) (L : Lay) (gs : List (List ByteArray)) (wr : World) : Prop where
  flat : gs.flatten = l.take k
  lg : LgAt wr Lb D (gs.length - 1) gs.flatten.length false
  dk : DkAt wr base D d L
  lp : LogP d gs k (1008 * k)
  on : d.on = true
  arm : d.arm = none
  room : d.room = 1048576
  lb : base ≤ Lb
  bel : Below base w wr
theorem Lo.next {w wr w' : World} {base D Lb : Nat} {l : List ByteArray} {k : Nat} {d d' : Dk} {L : Lay} {gs : List (List ByteArray)} {r : ByteArray} (h : Lo w base D Lb l k d L gs wr) (hk : k < l.length) (hr : r = l.getD k ByteArray.empty) (hz : r.size ≤ 1000)
    (ha : Ap wr base D Lb d L ((addL gs r).length - 1) (addL gs r).flatten.length false d' w') (hp : LogP d' (addL gs r) (k + 1) (1008 * k + (8 + r.size))) (h1 : d'.on = true) (h2 : d'.arm = none) (h3 : d'.room = d.room) : ∃ L', Lo w base D Lb l (k + 1) d' L' (addL gs r) w' := by
  obtain ⟨a, ⟨L', b, c⟩, o⟩ := ha
  have hb := h.dk.dbase
  have hl := h.dk.blk.lt
  refine ⟨L', ⟨?_, a, b, ⟨hp.segs, hp.safe, hp.few, hp.flat, hp.len, Nat.le_trans hp.used (by omega)⟩, h1, h2, h3.trans h.room, h.lb, h.bel.trans (o.below (fun g hg => ?_) (by omega))⟩⟩
  · rw [addL_flat, h.flat, List.take_succ_eq_append_getElem hk, hr, List.getD_eq_getElem?_getD, List.getElem?_eq_getElem hk]; rfl
  · rcases hg with hg | hg
    · rw [hg]; exact h.lb
    · exact h.dk.foot_base hg

set_option maxHeartbeats 4000000 in
set_option maxRecDepth 100000 in
theorem walk (x : Option Addr) (cap : Nat) (l : List ByteArray) (w : World) (hrow : StrRow w x l) (hl : l.length ≤ maxLen ∧ ∀ s ∈ l, s.size ≤ maxLen) :
    Calls Tryd.prog 4 #[.slice x l.length cap] w fun e w' => e = .returned (.bool true) ∧ Below w.heap.size w w' := by
  have hlen := hl.1
  unfold maxLen at hlen
  by_cases h30 : 30 < l.length
  · have h30i : (30 : Int) < (l.length : Int) := by omega
    clear hrow hl
    go_enter Tryd.func4, Tryd.ntmps4
    go_wp2_with fail
    refine (awake11 _).mono ?_
    rintro e w4 ⟨rfl, b4⟩
    have B4 := Lib.hid b4
    clear b4
    go_wp2
    go_ret
    exact ⟨rfl, B4.out⟩
  have h30i : ¬ ((30 : Int) < (l.length : Int)) := by omega
  have HROW := Lib.hid hrow
  have HL := Lib.hid hl
  clear hrow hl
  go_enter Tryd.func4, Tryd.ntmps4
  go_wp2_with fail
  refine (awake11 _).mono ?_
  rintro e w1 ⟨rfl, b1⟩
  have B1 := Lib.hid b1
  clear b1
  have HNEW := Lib.hid (new_yes w1 1048576 (by decide))
  rw [show ((1048576 : Nat) : Int) = 1048576 from rfl] at HNEW
  have HD0 := Lib.hid (new_at w1 w1.heap.size 1048576 (Nat.le_refl _) (by decide))
  rw [show ((1048576 : Nat) : Int) = 1048576 from rfl] at HD0
  go_wp2_with fail
  refine HNEW.out.mono ?_
  rintro e w2 ⟨rfl, rfl⟩
  obtain ⟨w2, hw2⟩ : ∃ W, W = w1.alloc (.cells #[.int .i64 1048576, .int .i64 0, .map none, .bool true, .bool false, .int .i64 0] 54) := ⟨_, rfl⟩
  rw [← hw2] at HD0 ⊢
  have B2 := Lib.hid (show Below w1.heap.size w1 w2 by rw [hw2]; exact (Below.refl _ _).alloc (Nat.le_refl _) _)
  clear hw2 HNEW
  go_wp2_with fail
  refine (open_log (gs := []) (tl := ByteArray.empty) HD0.out rfl rfl segs_none (by simp)).mono ?_
  rintro e w3 ⟨Lb, v, L3, rfl, hLb, l3, q3, d3, o3, f3⟩
  rw [openD_same _ _ _ rfl] at d3
  obtain ⟨va, vc, rfl, _, _, _⟩ := q3.form
  have hd0 := HD0.out
  have LO0 := Lib.hid (show Lo w1 w1.heap.size w1.heap.size Lb l 0 (newD 1048576) L3 [] w3 from ⟨rfl, l3, d3, log0 _, rfl, rfl, rfl, Nat.le_trans B2.out.size hLb, B2.out.trans (o3.below (fun g hg => hd0.foot_base hg) B2.out.size)⟩)
  clear l3 q3 d3 o3 f3 hd0
  go_wp2
  go_loopw [7] (fun i wr => ∃ (k : Nat) (d : Dk) (L : Lay) (gs : List (List ByteArray)), k ≤ l.length ∧ i = .int .i64 (k : Int) ∧ Lo w1 w1.heap.size w1.heap.size Lb l k d L gs wr) (fun i _ => l.length - (intOf i).toNat)
  case atStart => exact ⟨0, _, _, _, Nat.zero_le _, rfl, LO0.out⟩
  case round =>
    obtain ⟨k, d, L, gs, hk, rfl, hLo⟩ := hrel
    have H := Lib.hid hLo
    clear hLo
    have BR := Lib.hid (B1.out.trans (H.out.bel.mono B1.out.size))
    by_cases hlt : k < l.length
    · obtain ⟨b, off, rfl, ck⟩ := str_cell (HROW.out.below BR.out) k hlt
      have hsr : (l.getD k ByteArray.empty).size ≤ 9223372036854775807 := by
        have := HL.out.2 (l.getD k ByteArray.empty) (by rw [List.getD_eq_getElem?_getD, List.getElem?_eq_getElem hlt]; exact List.getElem_mem hlt)
        unfold maxLen at this
        omega
      have i1 : (k : Int) < (l.length : Int) := by omega
      have i0 : (0 : Int) ≤ (k : Int) := by omega
      generalize hrr : l.getD k ByteArray.empty = r at *
      have HRR := Lib.hid hrr
      clear hrr
      by_cases hbig : 1000 < r.size
      · have hbi : (1000 : Int) < (r.size : Int) := by omega
        go_wp2
        go_ret
        exact ⟨rfl, BR.out⟩
      · have hbi : ¬ ((1000 : Int) < (r.size : Int)) := by omega
        have hrm := H.out.room
        have HAP := Lib.hid (append_calm H.out.lg H.out.dk H.out.lp (by omega) H.out.on H.out.arm r (by omega) (by omega))
        clear hrm
        go_wp2_with fail
        refine HAP.out.mono ?_
        rintro e w5 ⟨rfl, d5, a5, p5, q5, r5, s5⟩
        have HN := Lib.hid (H.out.next hlt HRR.out.symm (by omega) a5 p5 q5 r5 s5)
        clear a5 p5 q5 r5 s5
        go_wp2
        go_roundw
        case rel =>
          obtain ⟨L', hh⟩ := HN.out
          exact ⟨k + 1, d5, L', _, hlt, by go_num, hh⟩
        case measure => simp [intOf]; omega
    · obtain rfl : k = l.length := by omega
      have hfl : gs.flatten = l := by rw [H.out.flat, List.take_length]
      have HOP := Lib.hid (open_so (tl := ByteArray.empty) H.out.dk H.out.on H.out.arm H.out.lp.segs (by rw [hfl]; omega))
      have HRC := Lib.hid (show ∀ x ∈ l, x.size ≤ 1000000 from fun y hy => by have := H.out.lp.segs.recs y (by rw [hfl]; exact hy); omega)
      have HFL := Lib.hid hfl
      clear hfl
      go_wp2_with fail
      refine HOP.out.mono ?_
      rintro e w5 ⟨h1, h2⟩
      rw [HFL.out] at h1 h2
      have hdk := H.out.dk
      cases hof : ofR ss0 l with
      | none =>
        obtain ⟨rfl, o5⟩ := h2 hof
        have B5 := Lib.hid (BR.out.trans ((o5.below (fun g hg => hdk.foot_base hg) H.out.bel.size).mono B1.out.size))
        have HOF := Lib.hid (of_any w5 x cap l (HROW.out.below B5.out) (by omega) HRC.out)
        have HN := Lib.hid hof
        clear h1 h2 o5 hdk hof
        go_wp2_with fail
        refine HOF.out.mono ?_
        rintro e w6 ⟨b6, _, h6⟩
        obtain rfl := h6 HN.out
        unfold zeroS
        have B6 := Lib.hid (B5.out.trans (b6.mono B5.out.size))
        have HB7 := Lib.hid (show ∀ o : Obj, Below w.heap.size w (w6.alloc o) from fun o => B6.out.alloc B6.out.size _)
        clear b6 h6
        go_wp2
        go_ret
        exact ⟨rfl, HB7.out _⟩
      | some s =>
        obtain ⟨B, Lb5, L5, ev5, q5, rfl, so5, sz5, o5, f5⟩ := h1 s hof
        have B5 := Lib.hid (BR.out.trans ((o5.below (fun g hg => hdk.foot_base hg) H.out.bel.size).mono B1.out.size))
        have HOF := Lib.hid (of_any w5 x cap l (HROW.out.below B5.out) (by omega) HRC.out)
        have HN := Lib.hid hof
        have SO := Lib.hid so5
        have SZ := Lib.hid sz5
        clear h1 h2 o5 hdk hof so5 sz5 f5
        go_wp2_with fail
        refine HOF.out.mono ?_
        rintro e w6 ⟨b6, h6, _⟩
        obtain ⟨_, v6, rfl, vs6⟩ := h6 s HN.out
        have B6 := Lib.hid (B5.out.trans (b6.mono B5.out.size))
        have SO6 := Lib.hid (SO.out.below b6 (Nat.le_refl _))
        have VS6 := Lib.hid vs6
        clear b6 h6 vs6
        unfold vsV
        go_wp2
        obtain ⟨w7, hw7⟩ : ∃ W, W = w6.alloc (.cells #[.string s.room, .slice v6.a1 s.events.length v6.c1, .int .i64 (s.used : Int), .slice v6.a2 s.queue.length v6.c2] 33) := ⟨_, rfl⟩
        rw [← hw7]
        have hR7 : Blk w7 w6.heap.size 33 [.string s.room, .slice v6.a1 s.events.length v6.c1, .int .i64 (s.used : Int), .slice v6.a2 s.queue.length v6.c2] := by rw [hw7]; exact Blk.new w6 _ _
        have b67 : Below w6.heap.size w6 w7 := by rw [hw7]; exact (Below.refl _ _).alloc (Nat.le_refl _) _
        clear hw7
        have B7 := Lib.hid (B6.out.trans (b67.mono B6.out.size))
        have HSTA := Lib.hid (state_at (SO6.out.below b67 (Nat.le_refl _)).st (SZ.out.up (by omega)))
        have HASA := Lib.hid (fun Wq v hv hq => as_at (w7 := w7) (s := s) Wq v hv hq)
        have HSMA := Lib.hid (fun Wq v hv hq => same_at (w7 := w7) (SZ.out.up (by omega)) (SZ.out.up (by omega)) (VS6.out.below b67) Wq v hv hq)
        rw [sameB_self] at HSMA
        obtain ⟨R, hR⟩ : ∃ R, R = w6.heap.size := ⟨_, rfl⟩
        rw [← hR] at hR7 ⊢
        clear hR
        have hRl : R < w7.heap.size := hR7.lt
        have k0 : w7.cell? ⟨R, 0, none⟩ = some (.string s.room) := hR7.cell 0
        have k1 : w7.cell? ⟨R, 1, none⟩ = some (.slice v6.a1 s.events.length v6.c1) := hR7.cell 1
        have k2 : w7.cell? ⟨R, 2, none⟩ = some (.int .i64 (s.used : Int)) := hR7.cell 2
        have k3 : w7.cell? ⟨R, 3, none⟩ = some (.slice v6.a2 s.queue.length v6.c2) := hR7.cell 3
        have kd0 : w7.drew.cell? ⟨R, 0, none⟩ = some (.string s.room) := k0
        have kd1 : w7.drew.cell? ⟨R, 1, none⟩ = some (.slice v6.a1 s.events.length v6.c1) := k1
        have kd2 : w7.drew.cell? ⟨R, 2, none⟩ = some (.int .i64 (s.used : Int)) := k2
        have kd3 : w7.drew.cell? ⟨R, 3, none⟩ = some (.slice v6.a2 s.queue.length v6.c2) := k3
        have bdr : Below w7.heap.size w7 w7.drew := (Below.refl _ _).drew
        clear hR7 b67
        go_region_held3 (fun w' => w'.cell? ⟨R, 0, none⟩ = some (.string s.room) ∧ w'.cell? ⟨R, 1, none⟩ = some (.slice v6.a1 s.events.length v6.c1) ∧ w'.cell? ⟨R, 2, none⟩ = some (.int .i64 (s.used : Int)) ∧ w'.cell? ⟨R, 3, none⟩ = some (.slice v6.a2 s.queue.length v6.c2))
          (first | with_reducible exact ⟨(b10.cell (p := ⟨R, 0, none⟩) hRl).trans k0, (b10.cell (p := ⟨R, 1, none⟩) hRl).trans k1, (b10.cell (p := ⟨R, 2, none⟩) hRl).trans k2, (b10.cell (p := ⟨R, 3, none⟩) hRl).trans k3⟩ | with_reducible exact (b10.cell (p := ⟨R, 0, none⟩) hRl).trans k0 | with_reducible exact (b10.cell (p := ⟨R, 1, none⟩) hRl).trans k1 | with_reducible exact (b10.cell (p := ⟨R, 2, none⟩) hRl).trans k2 | with_reducible exact (b10.cell (p := ⟨R, 3, none⟩) hRl).trans k3 | with_reducible exact ⟨(b9.cell (p := ⟨R, 0, none⟩) hRl).trans k0, (b9.cell (p := ⟨R, 1, none⟩) hRl).trans k1, (b9.cell (p := ⟨R, 2, none⟩) hRl).trans k2, (b9.cell (p := ⟨R, 3, none⟩) hRl).trans k3⟩ | with_reducible exact (b9.cell (p := ⟨R, 0, none⟩) hRl).trans k0 | with_reducible exact (b9.cell (p := ⟨R, 1, none⟩) hRl).trans k1 | with_reducible exact (b9.cell (p := ⟨R, 2, none⟩) hRl).trans k2 | with_reducible exact (b9.cell (p := ⟨R, 3, none⟩) hRl).trans k3 | with_reducible exact ⟨(b8.cell (p := ⟨R, 0, none⟩) hRl).trans k0, (b8.cell (p := ⟨R, 1, none⟩) hRl).trans k1, (b8.cell (p := ⟨R, 2, none⟩) hRl).trans k2, (b8.cell (p := ⟨R, 3, none⟩) hRl).trans k3⟩ | with_reducible exact (b8.cell (p := ⟨R, 0, none⟩) hRl).trans k0 | with_reducible exact (b8.cell (p := ⟨R, 1, none⟩) hRl).trans k1 | with_reducible exact (b8.cell (p := ⟨R, 2, none⟩) hRl).trans k2 | with_reducible exact (b8.cell (p := ⟨R, 3, none⟩) hRl).trans k3 | exact ⟨kd0, kd1, kd2, kd3⟩ | with_reducible exact kd0 | with_reducible exact kd1 | with_reducible exact kd2 | with_reducible exact kd3 | fail)
          (first
            | (go_at_call 16; refine (HSTA.out _ (by first | exact bdr)).mono ?_; rintro e w8 ⟨v8, rfl, vs8, b8⟩)
            | (go_at_call 15; refine (HASA.out _ v8 vs8 b8).mono ?_; rintro e w9 ⟨rfl, vs9, b9⟩)
            | (go_at_call 14; refine (HSMA.out _ v8 vs9 b9).mono ?_; rintro e w10 ⟨rfl, b10⟩))
        have B10 := Lib.hid (B7.out.trans (b10.mono B7.out.size))
        clear vs8 vs9 b8 b9 b10 k0 k1 k2 k3 kd0 kd1 kd2 kd3 bdr
        go_wp2
        go_ret
        exact ⟨rfl, B10.out⟩

theorem own : ownKnob Tryd.prog.godebug = none := by kernel_rfl
theorem laidOut : laidOutB Tryd.prog = true := by kernel_rfl

set_option maxRecDepth 100000 in
theorem contract (H : Type) (enc : TypeId × Value → H) (W : World) (base : Nat) (args : Array Value) (ds gs : List (DataW H)) (before : List MemPlace)
    (hval : ∀ (j : Nat) t v, Tryd.f4.params[j]? = some t → args[j]? = some v → Value.okWide Tryd.prog W .any base t v)
    (hW : DataW.Whole enc Tryd.prog Tryd.f4.params.toList Rows.storeOpensSpec.vars false W args.toList ds gs before) (hL : laidMetH Tryd.prog Rows.storeOpensRow.laid W) :
    Calls Tryd.prog 4 args W fun e W' => ∃ v, e = .returned v ∧ Rows.storeOpensSpec.post enc Tryd.prog Tryd.f4 false true false false W args v W' := by
  have hW' := hW
  obtain ⟨p, q, hA0, hV, rfl, hfz, hnd⟩ := hW
  have hA : DataW.TrodAll enc Tryd.prog W 0 (fun _ => true) true Tryd.f4.params.toList args.toList ds p := hA0
  rw [Tryd.params4] at hA hval
  obtain ⟨v0, vs0, d0, ds0, p0, q0, hargs, rfl, rfl, h0, r0⟩ := trodAll_cons hA
  obtain ⟨rfl, rfl, rfl⟩ := trodAll_nil r0
  obtain rfl : args = #[v0] := by cases args; simp_all
  obtain ⟨rfl, rfl⟩ := trodVars_none hV
  obtain ⟨x0, len0, cap0, rfl⟩ := okWide_slice Tryd.underlying31 (hval 0 31 v0 rfl rfl)
  have k0 := h0
  have lt0 : ∀ x ∈ p0, x.block < W.heap.size := by obtain ⟨m, hm⟩ := k0; exact DataW.trod_lt m _ _ _ hm
  obtain ⟨ss0, rfl, i0, m0⟩ : ∃ ss : List ByteArray, len0 = ss.length ∧ StrRow W x0 ss ∧ ss.length ≤ maxLen ∧ ∀ s ∈ ss, s.size ≤ maxLen := by
    obtain ⟨fuel, hf⟩ := h0
    rcases open_strings Tryd.underlying31 Tryd.underlying9 (by kernel_rfl) hf with ⟨hcs, _⟩ | ⟨x, l, c, ss, hcs, _, hl, hm, hz, _, hcell, hws⟩
    · simp [Value.cells] at hcs
      obtain ⟨rfl, rfl, rfl⟩ := hcs
      exact ⟨[], rfl, .inl rfl, Nat.zero_le _, fun s hs => by cases hs⟩
    · simp [Value.cells] at hcs
      obtain ⟨rfl, rfl, rfl⟩ := hcs
      have hz2 : ss.length = cap0 := hz.trans (if_pos rfl)
      refine ⟨ss.take len0, by simp; omega, ?_, by simp; omega, fun s hs => hws s (List.mem_of_mem_take hs)⟩
      by_cases hz0 : len0 = 0
      · exact .inl (by rw [hz0, List.take_zero])
      obtain ⟨b, off, spot⟩ := x
      have hspot : spot = none := by simpa [Addr.add] using World.cell?_spot (hcell 0 (by omega))
      subst hspot
      refine .inr ⟨b, off, rfl, ?_, fun i hi => ?_⟩
      · have hc := hcell 0 (by omega)
        rcases Nat.lt_or_ge b W.heap.size with h1 | h1
        · exact h1
        · simp [World.cell?, Addr.add, Array.getElem?_eq_none h1] at hc
      · have hi' : i < len0 := by simp at hi; omega
        have hc := hcell i (by omega)
        rw [add_plain] at hc
        rw [hc]
        simp [List.getD, hi']
  clear hA0
  refine (walk x0 cap0 ss0 W i0 m0).mono fun e W' ⟨he, bel⟩ => ?_
  subst he
  exact ⟨_, rfl, _, _, _, [], _, [], hW', trodAll_mk1 (shut_bool Tryd.underlying4 _), (trodAll_cons_mk (Below.trod laidOut (by kernel_rfl) (of_decide_eq_true (by kernel_rfl)) k0 bel lt0) trodAll_mk0), rfl, bel.frame _, fun h => by cases h⟩

theorem laid_met (os : Os) : laidMet Tryd.prog Rows.storeOpensRow.laid (({ World.holding Tryd.prog os ⟨#[], #[], []⟩ with heap := (((World.holding Tryd.prog os ⟨#[], #[], []⟩).heap.modify 0 fun | .cells _ t frozen => .cells #[.int .u64 1, .int .u64 10, .int .u64 100, .int .u64 1000, .int .u64 10000, .int .u64 100000, .int .u64 1000000, .int .u64 10000000, .int .u64 100000000, .int .u64 1000000000, .int .u64 10000000000, .int .u64 100000000000, .int .u64 1000000000000, .int .u64 10000000000000, .int .u64 100000000000000, .int .u64 1000000000000000, .int .u64 10000000000000000, .int .u64 100000000000000000, .int .u64 1000000000000000000, .int .u64 10000000000000000000] t frozen | o => o).modify 1 fun | .cells _ t frozen => .cells #[.int .u8 0, .int .u8 1, .int .u8 28, .int .u8 2, .int .u8 29, .int .u8 14, .int .u8 24, .int .u8 3, .int .u8 30, .int .u8 22, .int .u8 20, .int .u8 15, .int .u8 25, .int .u8 17, .int .u8 4, .int .u8 8, .int .u8 31, .int .u8 27, .int .u8 13, .int .u8 23, .int .u8 21, .int .u8 19, .int .u8 16, .int .u8 7, .int .u8 26, .int .u8 12, .int .u8 18, .int .u8 6, .int .u8 11, .int .u8 5, .int .u8 10, .int .u8 9] t frozen | o => o).modify 2 fun | .cells _ t frozen => .cells #[.int .u8 0, .int .u8 1, .int .u8 56, .int .u8 2, .int .u8 57, .int .u8 49, .int .u8 28, .int .u8 3, .int .u8 61, .int .u8 58, .int .u8 42, .int .u8 50, .int .u8 38, .int .u8 29, .int .u8 17, .int .u8 4, .int .u8 62, .int .u8 47, .int .u8 59, .int .u8 36, .int .u8 45, .int .u8 43, .int .u8 51, .int .u8 22, .int .u8 53, .int .u8 39, .int .u8 33, .int .u8 30, .int .u8 24, .int .u8 18, .int .u8 12, .int .u8 5, .int .u8 63, .int .u8 55, .int .u8 48, .int .u8 27, .int .u8 60, .int .u8 41, .int .u8 37, .int .u8 16, .int .u8 46, .int .u8 35, .int .u8 44, .int .u8 21, .int .u8 52, .int .u8 32, .int .u8 23, .int .u8 11, .int .u8 54, .int .u8 26, .int .u8 40, .int .u8 15, .int .u8 34, .int .u8 20, .int .u8 31, .int .u8 10, .int .u8 25, .int .u8 14, .int .u8 19, .int .u8 9, .int .u8 13, .int .u8 8, .int .u8 7, .int .u8 6] t frozen | o => o } : World).forCall (fun _ _ => 0) ⟨#[], #[.slice none 0 0], []⟩).memory :=
  laidMet_of_run' 8 (by kernel_rfl) (by kernel_rfl)
theorem reads (os : Os) {H : Type} (enc : TypeId × Value → H) : ∃ places, DataW.whole enc Tryd.prog (({ World.holding Tryd.prog os ⟨#[], #[], []⟩ with heap := (((World.holding Tryd.prog os ⟨#[], #[], []⟩).heap.modify 0 fun | .cells _ t frozen => .cells #[.int .u64 1, .int .u64 10, .int .u64 100, .int .u64 1000, .int .u64 10000, .int .u64 100000, .int .u64 1000000, .int .u64 10000000, .int .u64 100000000, .int .u64 1000000000, .int .u64 10000000000, .int .u64 100000000000, .int .u64 1000000000000, .int .u64 10000000000000, .int .u64 100000000000000, .int .u64 1000000000000000, .int .u64 10000000000000000, .int .u64 100000000000000000, .int .u64 1000000000000000000, .int .u64 10000000000000000000] t frozen | o => o).modify 1 fun | .cells _ t frozen => .cells #[.int .u8 0, .int .u8 1, .int .u8 28, .int .u8 2, .int .u8 29, .int .u8 14, .int .u8 24, .int .u8 3, .int .u8 30, .int .u8 22, .int .u8 20, .int .u8 15, .int .u8 25, .int .u8 17, .int .u8 4, .int .u8 8, .int .u8 31, .int .u8 27, .int .u8 13, .int .u8 23, .int .u8 21, .int .u8 19, .int .u8 16, .int .u8 7, .int .u8 26, .int .u8 12, .int .u8 18, .int .u8 6, .int .u8 11, .int .u8 5, .int .u8 10, .int .u8 9] t frozen | o => o).modify 2 fun | .cells _ t frozen => .cells #[.int .u8 0, .int .u8 1, .int .u8 56, .int .u8 2, .int .u8 57, .int .u8 49, .int .u8 28, .int .u8 3, .int .u8 61, .int .u8 58, .int .u8 42, .int .u8 50, .int .u8 38, .int .u8 29, .int .u8 17, .int .u8 4, .int .u8 62, .int .u8 47, .int .u8 59, .int .u8 36, .int .u8 45, .int .u8 43, .int .u8 51, .int .u8 22, .int .u8 53, .int .u8 39, .int .u8 33, .int .u8 30, .int .u8 24, .int .u8 18, .int .u8 12, .int .u8 5, .int .u8 63, .int .u8 55, .int .u8 48, .int .u8 27, .int .u8 60, .int .u8 41, .int .u8 37, .int .u8 16, .int .u8 46, .int .u8 35, .int .u8 44, .int .u8 21, .int .u8 52, .int .u8 32, .int .u8 23, .int .u8 11, .int .u8 54, .int .u8 26, .int .u8 40, .int .u8 15, .int .u8 34, .int .u8 20, .int .u8 31, .int .u8 10, .int .u8 25, .int .u8 14, .int .u8 19, .int .u8 9, .int .u8 13, .int .u8 8, .int .u8 7, .int .u8 6] t frozen | o => o } : World).forCall (fun _ _ => 0) ⟨#[], #[.slice none 0 0], []⟩).memory Tryd.f4.params.toList Rows.storeOpensSpec.vars false (#[.slice none 0 0] : Array Value).toList 8 = some ([.nil], [], places) :=
  ⟨[], by kernel_rfl⟩

set_option maxRecDepth 100000 in
theorem lifted (os : Os) (started : os.Started) (H : Type) (enc : TypeId × Value → H) (F : Stop.Interp) :
    ReturnsInHanded {} Tryd.checked os 4 .any ((OpenSpec.ofChange Rows.storeOpensSpec).preRow enc Tryd.prog Tryd.f4 Rows.storeOpensRow.domain false Rows.storeOpensRow.laid) (((OpenSpec.ofChange Rows.storeOpensSpec).at F).post enc Tryd.prog Tryd.f4 false true false false) := by
  obtain ⟨places, hx⟩ := reads os enc
  refine returnsInHanded_of_row (C := Tryd.checked) (s := OpenSpec.ofChange Rows.storeOpensSpec) own started (by kernel_rfl) Tryd.func4
    (witness_row_at (enc := enc) (C := Tryd.checked) false ({ World.holding Tryd.prog os ⟨#[], #[], []⟩ with heap := (((World.holding Tryd.prog os ⟨#[], #[], []⟩).heap.modify 0 fun | .cells _ t frozen => .cells #[.int .u64 1, .int .u64 10, .int .u64 100, .int .u64 1000, .int .u64 10000, .int .u64 100000, .int .u64 1000000, .int .u64 10000000, .int .u64 100000000, .int .u64 1000000000, .int .u64 10000000000, .int .u64 100000000000, .int .u64 1000000000000, .int .u64 10000000000000, .int .u64 100000000000000, .int .u64 1000000000000000, .int .u64 10000000000000000, .int .u64 100000000000000000, .int .u64 1000000000000000000, .int .u64 10000000000000000000] t frozen | o => o).modify 1 fun | .cells _ t frozen => .cells #[.int .u8 0, .int .u8 1, .int .u8 28, .int .u8 2, .int .u8 29, .int .u8 14, .int .u8 24, .int .u8 3, .int .u8 30, .int .u8 22, .int .u8 20, .int .u8 15, .int .u8 25, .int .u8 17, .int .u8 4, .int .u8 8, .int .u8 31, .int .u8 27, .int .u8 13, .int .u8 23, .int .u8 21, .int .u8 19, .int .u8 16, .int .u8 7, .int .u8 26, .int .u8 12, .int .u8 18, .int .u8 6, .int .u8 11, .int .u8 5, .int .u8 10, .int .u8 9] t frozen | o => o).modify 2 fun | .cells _ t frozen => .cells #[.int .u8 0, .int .u8 1, .int .u8 56, .int .u8 2, .int .u8 57, .int .u8 49, .int .u8 28, .int .u8 3, .int .u8 61, .int .u8 58, .int .u8 42, .int .u8 50, .int .u8 38, .int .u8 29, .int .u8 17, .int .u8 4, .int .u8 62, .int .u8 47, .int .u8 59, .int .u8 36, .int .u8 45, .int .u8 43, .int .u8 51, .int .u8 22, .int .u8 53, .int .u8 39, .int .u8 33, .int .u8 30, .int .u8 24, .int .u8 18, .int .u8 12, .int .u8 5, .int .u8 63, .int .u8 55, .int .u8 48, .int .u8 27, .int .u8 60, .int .u8 41, .int .u8 37, .int .u8 16, .int .u8 46, .int .u8 35, .int .u8 44, .int .u8 21, .int .u8 52, .int .u8 32, .int .u8 23, .int .u8 11, .int .u8 54, .int .u8 26, .int .u8 40, .int .u8 15, .int .u8 34, .int .u8 20, .int .u8 31, .int .u8 10, .int .u8 25, .int .u8 14, .int .u8 19, .int .u8 9, .int .u8 13, .int .u8 8, .int .u8 7, .int .u8 6] t frozen | o => o } : World) #[.slice none 0 0] rfl (by kernel_rfl) (by kernel_rfl) (by kernel_rfl)
      (OpenSpec.preRow_of_cond 8 hx (by kernel_rfl) (fun k hk => by cases hk) (by kernel_rfl) (laid_met os))) ?_
  intro W base args ds gs before hval hW _ _ _ hL _ _
  exact contract H enc W base args ds gs before hval hW hL

theorem said : Rows.StoreOpensSaid :=
  OpenClaim.holds_of_cond 4 Tryd.f4 rfl rfl rfl rfl rfl rfl rfl ⟨rfl, rfl, rfl, rfl, rfl⟩ rfl rfl rfl rfl rfl (by kernel_rfl) Tryd.func4 (by kernel_rfl)
    (of_decide_eq_true (by kernel_rfl)) (by unfold Func.isWrapper; first | (rw [if_pos (by decide +kernel)]; kernel_rfl) | (rw [if_neg (by decide +kernel)]; exact ⟨rfl, rfl⟩))
    (fun os started H enc _ F => by rw [OpenClaim.pre_eq_preRow]; exact lifted os started H enc F)

theorem plain (f : FuncId) (fn : Func) (hf : Tryd.pinned.checked.prog.funcNamed Rows.storeOpensRow.func = some f) (hfn : Tryd.pinned.checked.prog.funcs[f]? = some fn) :
    false = Tryd.pinned.checked.prog.looks [] ∧ ∀ (j : Nat) t, fn.params[j]? = some t → Tryd.pinned.checked.prog.wantsStandIn t = false := by
  obtain rfl : f = 4 := Option.some.inj ((show Tryd.prog.funcNamed Rows.storeOpensRow.func = some 4 by kernel_rfl).symm.trans hf) |>.symm
  obtain rfl : fn = Tryd.f4 := (Option.some.inj (Tryd.func4.symm.trans hfn)).symm
  refine ⟨by kernel_rfl, fun j t ht => ?_⟩
  rw [Tryd.params4] at ht
  have hm : t = 31 := by first | simpa using Array.mem_of_getElem? ht | (have h := Array.mem_of_getElem? ht; simp only [List.mem_toArray, List.mem_cons, List.not_mem_nil, or_false] at h; rcases h with rfl <;> simp)
  rcases hm with rfl
  · exact (show Tryd.prog.wantsStandIn 31 = false by kernel_rfl)

theorem card : Rows.StoreOpensCardSaid :=
  Claim7.holds_tied_plain_at .later [] _ _ _ _ said (fun _ h => by cases h) (by kernel_rfl) (fun _ h => by cases h) storeOpens_row_tie rfl ⟨rfl, rfl⟩ (by kernel_rfl) rfl plain (by kernel_rfl)

end Go.Proofs.YtffnkomnldgcaaaDoor.StoreOpens
namespace Go.Proofs.YtffnkomnldgcaaaDoor
theorem storeOpens_card : Rows.StoreOpensCardSaid := StoreOpens.card
#print axioms storeOpens_card
end Go.Proofs.YtffnkomnldgcaaaDoor

