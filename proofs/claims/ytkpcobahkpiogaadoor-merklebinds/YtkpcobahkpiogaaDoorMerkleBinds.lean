/-
  P4.3: two leaves that one path, at one number, leads to one root are alike, or else two unlike texts that were summed on the two ways have one digest: for every two texts, every number and list of texts.
  The tables of the program start as its text lays them (the card ties them).
-/
import Derived.Test.YtkpcobahkpiogaaDoorLaid
import Derived.Test.YtkpcobahkpiogaaDoorM5
import Derived.ProofKit
import Derived.OpenShut
import Derived.ShutString
import Derived.ChangeOld
import Derived.SevenTiedAt
import Derived.SliceStrings
namespace Go.Proofs.YtkpcobahkpiogaaDoor.MerkleBinds
open Go.ChangeShapes Go.WideShapes Go.ChangeAt Go.RowKit Go.Pal
open Go.ChangeMaps (open_string shut_string)
set_option linter.unusedVariables false


theorem small_of_long (ps : List ByteArray) (h4 : ps.length ≤ 20) (h : ∀ i, i < 20 → (ps.getD i ByteArray.empty).size ≤ 300) : SmallL ps := by
  intro i
  by_cases hi : i < 20
  · have := h i hi; omega
  · rw [List.getD_eq_getElem?_getD, List.getElem?_eq_none (by omega)]
    show ByteArray.empty.size ≤ _; decide
theorem own_row {w : World} {base : Nat} {t : TypeId} {v : Value} {n : Nat} {l : List ByteArray} (h : w.ownsRow base t 1 v n (l.map strV)) (hn : l.length = n) : ∃ a cap, v = .slice a l.length cap ∧ StrRow w a l := by
  subst hn
  rcases h.2 with ⟨rfl, h0⟩ | ⟨g, cap, cur, rfl, hb, hg, _⟩
  · exact ⟨none, 0, by rw [h0], .inl (List.eq_nil_of_length_eq_zero h0)⟩
  · refine ⟨some ⟨g, 0, none⟩, cap, rfl, .inr ⟨g, 0, rfl, (h.lt g rfl).2, fun i hi => ?_⟩⟩
    rw [Nat.zero_add, h.cellAt i (by omega), strs_get? l i hi]

set_option maxHeartbeats 2000000 in
set_option maxRecDepth 100000 in
theorem walk (a b : ByteArray) (i : Int) (x : Option Addr) (c : Nat) (ps : List ByteArray)
    (W : World) (ha : a.size ≤ maxLen) (hb : b.size ≤ maxLen) (wi : (Lit.int .i64 i).wf = true) (hx : StrRow W x ps) (mx : ps.length ≤ maxLen ∧ ∀ s ∈ ps, s.size ≤ maxLen) (ht : Tabs W) :
    Calls Tryd.prog 19 #[.string a, .string b, .int .i64 i, .slice x ps.length c] W fun e w' => e = .returned (.bool true) ∧ Below W.heap.size W w' := by
  have HLG := Lib.hid (long4 W x c ps hx mx.1 mx.2)
  have HX := Lib.hid hx
  have HT := Lib.hid ht
  have HMX := Lib.hid mx.1
  unfold maxLen at ha hb
  clear hx mx ht wi
  go_enter Tryd.func19, Tryd.ntmps19
  go_wp2_with fail
  refine HLG.out.mono ?_
  rintro e w1 ⟨⟨v, rfl, bb, rfl, hsm⟩, rfl⟩
  cases bb with
  | true =>
    clear hsm
    go_wp2_with fail
    refine (awake4_any _ HT.out).mono ?_
    rintro e w1 ⟨rfl, b1⟩
    go_wp2
    go_ret
    exact ⟨rfl, b1⟩
  | false =>
    have HSML := Lib.hid (hsm rfl)
    clear hsm HLG
    by_cases hlf : 300 < a.size
    · go_wp2_with fail
      refine (awake4_any _ HT.out).mono ?_
      rintro e w1 ⟨rfl, b1⟩
      go_wp2
      go_ret
      exact ⟨rfl, b1⟩
    by_cases hlf2 : 300 < b.size
    · go_wp2_with fail
      refine (awake4_any _ HT.out).mono ?_
      rintro e w1 ⟨rfl, b1⟩
      go_wp2
      go_ret
      exact ⟨rfl, b1⟩
    by_cases hok : ps.length ≤ 4 ∧ 0 ≤ i ∧ i < 2 ^ ps.length
    · obtain ⟨h1, h2, h3⟩ := hok
      obtain ⟨j, rfl⟩ : ∃ j : Nat, i = j := ⟨i.toNat, by omega⟩
      have hj : j < 2 ^ ps.length := by
        have e : ((2 ^ ps.length : Nat) : Int) = 2 ^ ps.length := by rw [Int.natCast_pow]; rfl
        omega
      have hsm := small_of_long ps (by omega) HSML.out
      have HFA := Lib.hid (fold_yes W a j x c ps h1 hj (by omega) HX.out hsm HT.out)
      have HFB := Lib.hid (fun w' (h : StrRow w' x ps) hT => fold_yes w' b j x c ps h1 hj (by omega) h hsm hT)
      have HRA := Lib.hid (fun w' (h : StrRow w' x ps) => reffold_yes w' a j x c ps h1 hj (by omega) h hsm)
      have HRB := Lib.hid (fun w' (h : StrRow w' x ps) => reffold_yes w' b j x c ps h1 hj (by omega) h hsm)
      have hclash := fold_clash a b j ps (by omega) (by omega) hsm
      have HSA := Lib.hid (stepIn_size a j ps (by omega) hsm)
      have HSB := Lib.hid (stepIn_size b j ps (by omega) hsm)
      have HLA := Lib.hid (roadTo_length a j ps ps.length)
      have HLB := Lib.hid (roadTo_length b j ps ps.length)
      have HGA := Lib.hid (fun k h => roadTo_get a j ps ps.length k h)
      have HGB := Lib.hid (fun k h => roadTo_get b j ps ps.length k h)
      have hcase : (foldAt a j ps ps.length ≠ foldAt b j ps ps.length) ∨ (foldAt a j ps ps.length = foldAt b j ps ps.length ∧ a = b) ∨ (foldAt a j ps ps.length = foldAt b j ps ps.length ∧ a ≠ b ∧ ∃ k, k < ps.length ∧ stepIn a j ps k ≠ stepIn b j ps k ∧ shaB (stepIn a j ps k) = shaB (stepIn b j ps k)) := by
        by_cases he : foldAt a j ps ps.length = foldAt b j ps ps.length
        · by_cases hab : a = b
          · exact .inr (.inl ⟨he, hab⟩)
          · exact .inr (.inr ⟨he, hab, hclash hab _ he⟩)
        · exact .inl he
      generalize foldAt a j ps ps.length = FA at *
      generalize foldAt b j ps ps.length = FB at *
      generalize roadTo a j ps ps.length = RA at *
      generalize roadTo b j ps ps.length = RB at *
      generalize stepIn a j ps = SA at *
      generalize stepIn b j ps = SB at *
      clear h3 hj h2 HSML hsm hclash
      go_wp2_with fail
      refine HFA.out.mono ?_
      rintro e w2 ⟨rfl, b2⟩
      have C2 := Lib.hid b2
      clear b2
      go_wp2_with fail
      refine (HFB.out _ (HX.out.below C2.out) (HT.out.below C2.out)).mono ?_
      rintro e w3 ⟨rfl, b3⟩
      have C3 := Lib.hid (C2.out.trans (b3.mono C2.out.size))
      clear b3 C2 HFA HFB
      rcases hcase with hne | ⟨rfl, rfl⟩ | ⟨rfl, hab, hex⟩
      · have hn := beqF hne
        clear hne
        go_wp2_with fail
        refine (awake4_any _ (HT.out.below C3.out)).mono ?_
        rintro e w4 ⟨rfl, b4⟩
        go_wp2
        go_ret
        exact ⟨rfl, C3.out.trans (b4.mono C3.out.size)⟩
      · go_wp2_with fail
        refine (awake4_any _ (HT.out.below C3.out)).mono ?_
        rintro e w4 ⟨rfl, b4⟩
        go_wp2
        go_ret
        exact ⟨rfl, C3.out.trans (b4.mono C3.out.size)⟩
      · have hn := beqF hab
        have HEX := Lib.hid hex
        clear hab hex
        go_wp2_with fail
        refine (HRA.out _ (HX.out.below C3.out)).mono ?_
        rintro e w4 ⟨⟨v, rfl, hown4⟩, b4⟩
        obtain ⟨a4, c4, rfl, row4⟩ := own_row hown4 HLA.out
        have C4 := Lib.hid (C3.out.trans (b4.mono C3.out.size))
        have R4 := Lib.hid row4
        clear b4 hown4 row4 C3
        go_wp2_with fail
        refine (HRB.out _ (HX.out.below C4.out)).mono ?_
        rintro e w5 ⟨⟨v, rfl, hown5⟩, b5⟩
        obtain ⟨a5, c5, rfl, row5⟩ := own_row hown5 HLB.out
        rw [HLA.out, HLB.out]
        have C5 := Lib.hid (C4.out.trans (b5.mono C4.out.size))
        have R5 := Lib.hid row5
        have R6 := Lib.hid (R4.out.below b5)
        clear b5 hown5 row5 C4 R4 HRA HRB hn
        go_wp2
        go_loopw [19] (fun vi wr => ∃ k : Nat, k ≤ ps.length ∧ vi = .int .i64 k ∧ (∀ q, q < k → ¬ (SA q ≠ SB q ∧ shaB (SA q) = shaB (SB q))) ∧ Below w5.heap.size w5 wr) (fun vi _ => ps.length - (intOf vi).toNat)
        case atStart => exact ⟨0, by omega, rfl, fun q hq => by omega, Below.refl _ _⟩
        case round =>
          obtain ⟨k, hk, rfl, hall, hb5⟩ := hrel
          have HALL := Lib.hid hall
          clear hall
          by_cases hlt : k < ps.length
          · have hla := HLA.out
            have hlb := HLB.out
            rcases R6.out with e0 | ⟨g1, o1, rfl, hg1, hc1⟩
            · rw [e0] at hla; simp at hla; omega
            rcases R5.out with e0 | ⟨g2, o2, rfl, hg2, hc2⟩
            · rw [e0] at hlb; simp at hlb; omega
            have k1 := hc1 k (by omega)
            have k2 := hc2 k (by omega)
            rw [HGA.out k hlt] at k1
            rw [HGB.out k hlt] at k2
            have z1 := HSA.out k
            have z2 := HSB.out k
            have q1 := (hb5.cell (p := ⟨g1, o1 + k, none⟩) hg1).trans k1
            have q2 := (hb5.cell (p := ⟨g2, o2 + k, none⟩) hg2).trans k2
            generalize hXA : SA k = XA at *
            generalize hXB : SB k = XB at *
            have HXA := Lib.hid hXA
            have HXB := Lib.hid hXB
            have HB5 := Lib.hid hb5
            clear hc1 hc2 hla hlb hXA hXB HEX HGA HGB
            by_cases hd : XA = XB
            · subst hd
              clear z2
              go_wp2
              go_quiet (fail)
              go_wp2
              go_roundw
              case rel =>
                refine ⟨k + 1, by omega, by go_num, fun q hq => ?_, below_drewN HB5.out _⟩
                by_cases hqk : q = k
                · subst hqk; rw [HXA.out, HXB.out]; exact fun h => h.1 rfl
                · exact HALL.out q (by omega)
              case measure => simp [intOf]; omega
            · have hn := beqF hd
              have HD := Lib.hid hd
              have HRS := Lib.hid (fun (X : ByteArray) (hX : X.size ≤ 9000000) (Wq : World) (hWq : Below w5.heap.size w5 Wq) => (refsum_any Wq X (by omega)).mono (fun e w' (h : e = .returned (.string (shaB X)) ∧ Below Wq.heap.size Wq w') => (show e = .returned (.string (shaB X)) ∧ Below w5.heap.size w5 w' from ⟨h.1, hWq.trans (h.2.mono hWq.size)⟩)))
              have bdr : Below w5.heap.size w5 wr.drew := HB5.out.drew
              have hk0 : (0 : Int) ≤ (k : Int) := by omega
              have hk1 : (k : Int) < (ps.length : Int) := by omega
              clear hd hb5
              go_wp2
              go_region_held3 (fun w' => w'.cell? ⟨g1, o1 + k, none⟩ = some (.string XA) ∧ w'.cell? ⟨g2, o2 + k, none⟩ = some (.string XB) ∧ Below w5.heap.size w5 w')
                (first | exact ⟨(b7.cell (p := ⟨g1, o1 + k, none⟩) hg1).trans k1, (b7.cell (p := ⟨g2, o2 + k, none⟩) hg2).trans k2, b7⟩ | exact (b7.cell (p := ⟨g1, o1 + k, none⟩) hg1).trans k1 | exact (b7.cell (p := ⟨g2, o2 + k, none⟩) hg2).trans k2 | exact b7 | exact ⟨q1, q2, bdr⟩ | exact bdr | go_keep)
                ((go_at_call 22; refine (HRS.out _ (by assumption) _ (by first | exact b7 | exact bdr)).mono ?_; rintro e w7 ⟨rfl, b7⟩))
              clear HRS
              generalize hDA : shaB XA = DA at *
              generalize hDB : shaB XB = DB at *
              have HDA := Lib.hid hDA
              have HDB := Lib.hid hDB
              clear hDA hDB
              by_cases hs : DA = DB
              · subst hs
                rw [show (DA.toList == DA.toList) = true by simp]
                have C7 := Lib.hid (C5.out.trans (b7.mono C5.out.size))
                clear b7 k1 k2 q1 q2
                go_wp2_with fail
                refine (awake4_any _ (HT.out.below C7.out)).mono ?_
                rintro e w8 ⟨rfl, b8⟩
                go_wp2
                go_ret
                exact ⟨rfl, C7.out.trans (b8.mono C7.out.size)⟩
              · rw [beqF hs]
                have B7 := Lib.hid b7
                have HS := Lib.hid hs
                clear hs b7 k1 k2 q1 q2
                go_wp2
                go_roundw
                case rel =>
                  refine ⟨k + 1, by omega, by go_num, fun q hq => ?_, B7.out⟩
                  by_cases hqk : q = k
                  · subst hqk; rw [HXA.out, HXB.out]; exact fun h => HS.out (by rw [← HDA.out, ← HDB.out]; exact h.2)
                  · exact HALL.out q (by omega)
                case measure => simp [intOf]; omega
          · exfalso
            obtain rfl : k = ps.length := by omega
            obtain ⟨q, h1, h2⟩ := HEX.out
            exact HALL.out q h1 h2
    · have hno : 4 < ps.length ∨ i < 0 ∨ 2 ^ ps.length ≤ i := by
        by_cases h4 : 4 < ps.length
        · exact .inl h4
        · by_cases h5 : i < 0
          · exact .inr (.inl h5)
          · right; right
            by_cases h6 : i < 2 ^ ps.length
            · exact absurd ⟨by omega, by omega, h6⟩ hok
            · omega
      have HF := Lib.hid (fun l => fold_no W l i x ps.length c hno HMX.out)
      clear hok hno HSML
      go_wp2_with fail
      refine (HF.out a).mono ?_
      rintro e w2 ⟨rfl, rfl⟩
      go_wp2_with fail
      refine (HF.out b).mono ?_
      rintro e w3 ⟨rfl, rfl⟩
      go_wp2_with fail
      refine (awake4_any _ HT.out).mono ?_
      rintro e w4 ⟨rfl, b4⟩
      go_wp2
      go_ret
      exact ⟨rfl, b4⟩

theorem own : ownKnob Tryd.prog.godebug = none := by kernel_rfl
theorem laidOut : laidOutB Tryd.prog = true := by kernel_rfl

set_option maxRecDepth 100000 in
theorem contract (H : Type) (enc : TypeId × Value → H) (W : World) (base : Nat) (args : Array Value) (ds gs : List (DataW H)) (before : List MemPlace)
    (hval : ∀ (j : Nat) t v, Tryd.f19.params[j]? = some t → args[j]? = some v → Value.okWide Tryd.prog W .any base t v)
    (hW : DataW.Whole enc Tryd.prog Tryd.f19.params.toList Rows.merkleBindsSpec.vars false W args.toList ds gs before) (hL : laidMetH Tryd.prog Rows.merkleBindsRow.laid W) :
    Calls Tryd.prog 19 args W fun e W' => ∃ v, e = .returned v ∧ Rows.merkleBindsSpec.post enc Tryd.prog Tryd.f19 false true false false W args v W' := by
  have hW' := hW
  obtain ⟨p, q, hA0, hV, rfl, hfz, hnd⟩ := hW
  have hA : DataW.TrodAll enc Tryd.prog W 0 (fun _ => true) true Tryd.f19.params.toList args.toList ds p := hA0
  rw [Tryd.params19] at hA hval
  obtain ⟨v0, vs0, d0, ds0, p0, q0, hargs, rfl, rfl, h0, r0⟩ := trodAll_cons hA
  obtain ⟨v1, vs1, d1, ds1, p1, q1, rfl, rfl, rfl, h1, r1⟩ := trodAll_cons r0
  obtain ⟨v2, vs2, d2, ds2, p2, q2, rfl, rfl, rfl, h2, r2⟩ := trodAll_cons r1
  obtain ⟨v3, vs3, d3, ds3, p3, q3, rfl, rfl, rfl, h3, r3⟩ := trodAll_cons r2
  obtain ⟨rfl, rfl, rfl⟩ := trodAll_nil r3
  obtain rfl : args = #[v0, v1, v2, v3] := by cases args; simp_all
  obtain ⟨rfl, rfl⟩ := trodVars_none hV
  obtain ⟨a0, rfl, rfl, rfl, w0⟩ := open_string Tryd.underlying9 (hval 0 9 v0 rfl rfl) h0
  obtain ⟨a1, rfl, rfl, rfl, w1⟩ := open_string Tryd.underlying9 (hval 1 9 v1 rfl rfl) h1
  obtain ⟨a2, rfl, rfl, rfl, w2⟩ := open_int Tryd.underlying3 (hval 2 3 v2 rfl rfl) h2
  obtain ⟨x3, len3, cap3, rfl⟩ := okWide_slice Tryd.underlying25 (hval 3 25 v3 rfl rfl)
  have k3 := h3
  have lt3 : ∀ x ∈ p3, x.block < W.heap.size := by obtain ⟨m, hm⟩ := k3; exact DataW.trod_lt m _ _ _ hm
  obtain ⟨ss3, rfl, i3, m3⟩ : ∃ ss : List ByteArray, len3 = ss.length ∧ StrRow W x3 ss ∧ ss.length ≤ maxLen ∧ ∀ s ∈ ss, s.size ≤ maxLen := by
    obtain ⟨fuel, hf⟩ := h3
    rcases open_strings Tryd.underlying25 Tryd.underlying9 (by kernel_rfl) hf with ⟨hcs, _⟩ | ⟨x, l, c, ss, hcs, _, hl, hm, hz, _, hcell, hws⟩
    · simp [Value.cells] at hcs
      obtain ⟨rfl, rfl, rfl⟩ := hcs
      exact ⟨[], rfl, .inl rfl, Nat.zero_le _, fun s hs => by cases hs⟩
    · simp [Value.cells] at hcs
      obtain ⟨rfl, rfl, rfl⟩ := hcs
      have hz2 : ss.length = cap3 := hz.trans (if_pos rfl)
      refine ⟨ss.take len3, by simp; omega, ?_, by simp; omega, fun s hs => hws s (List.mem_of_mem_take hs)⟩
      by_cases hz0 : len3 = 0
      · exact .inl (by rw [hz0, List.take_zero])
      obtain ⟨b, off, spot⟩ := x
      have hspot : spot = none := by simpa [Addr.add] using World.cell?_spot (hcell 0 (by omega))
      subst hspot
      refine .inr ⟨b, off, rfl, ?_, fun i hi => ?_⟩
      · have hc := hcell 0 (by omega)
        rcases Nat.lt_or_ge b W.heap.size with h1 | h1
        · exact h1
        · simp [World.cell?, Addr.add, Array.getElem?_eq_none h1] at hc
      · have hi' : i < len3 := by simp at hi; omega
        have hc := hcell i (by omega)
        rw [add_plain] at hc
        rw [hc]
        simp [List.getD, hi']
  clear hA0
  refine (walk a0 a1 a2 x3 cap3 ss3 W w0 w1 w2 i3 m3 (tabs_of_laid hL)).mono fun e W' ⟨he, bel⟩ => ?_
  subst he
  exact ⟨_, rfl, _, _, _, [], _, [], hW', trodAll_mk1 (shut_bool Tryd.underlying4 _), (trodAll_cons_mk (shut_string Tryd.underlying9 w0) (trodAll_cons_mk (shut_string Tryd.underlying9 w1) (trodAll_cons_mk (shut_int Tryd.underlying3 w2) (trodAll_cons_mk (Below.trod laidOut (by kernel_rfl) (of_decide_eq_true (by kernel_rfl)) k3 bel lt3) trodAll_mk0)))), rfl, bel.frame _, fun h => by cases h⟩

theorem laid_met (os : Os) : laidMet Tryd.prog Rows.merkleBindsRow.laid (({ World.holding Tryd.prog os ⟨#[], #[], []⟩ with heap := ((World.holding Tryd.prog os ⟨#[], #[], []⟩).heap.modify 0 fun | .cells _ t frozen => .cells #[.int .u32 1779033703, .int .u32 3144134277, .int .u32 1013904242, .int .u32 2773480762, .int .u32 1359893119, .int .u32 2600822924, .int .u32 528734635, .int .u32 1541459225] t frozen | o => o).modify 1 fun | .cells _ t frozen => .cells #[.int .u32 1116352408, .int .u32 1899447441, .int .u32 3049323471, .int .u32 3921009573, .int .u32 961987163, .int .u32 1508970993, .int .u32 2453635748, .int .u32 2870763221, .int .u32 3624381080, .int .u32 310598401, .int .u32 607225278, .int .u32 1426881987, .int .u32 1925078388, .int .u32 2162078206, .int .u32 2614888103, .int .u32 3248222580, .int .u32 3835390401, .int .u32 4022224774, .int .u32 264347078, .int .u32 604807628, .int .u32 770255983, .int .u32 1249150122, .int .u32 1555081692, .int .u32 1996064986, .int .u32 2554220882, .int .u32 2821834349, .int .u32 2952996808, .int .u32 3210313671, .int .u32 3336571891, .int .u32 3584528711, .int .u32 113926993, .int .u32 338241895, .int .u32 666307205, .int .u32 773529912, .int .u32 1294757372, .int .u32 1396182291, .int .u32 1695183700, .int .u32 1986661051, .int .u32 2177026350, .int .u32 2456956037, .int .u32 2730485921, .int .u32 2820302411, .int .u32 3259730800, .int .u32 3345764771, .int .u32 3516065817, .int .u32 3600352804, .int .u32 4094571909, .int .u32 275423344, .int .u32 430227734, .int .u32 506948616, .int .u32 659060556, .int .u32 883997877, .int .u32 958139571, .int .u32 1322822218, .int .u32 1537002063, .int .u32 1747873779, .int .u32 1955562222, .int .u32 2024104815, .int .u32 2227730452, .int .u32 2361852424, .int .u32 2428436474, .int .u32 2756734187, .int .u32 3204031479, .int .u32 3329325298] t frozen | o => o } : World).forCall (fun _ _ => 0) ⟨#[], #[.string ByteArray.empty, .string ByteArray.empty, .int .i64 0, .slice none 0 0], []⟩).memory :=
  laidMet_of_run' 8 (by kernel_rfl) (by kernel_rfl)
theorem reads (os : Os) {H : Type} (enc : TypeId × Value → H) : ∃ places, DataW.whole enc Tryd.prog (({ World.holding Tryd.prog os ⟨#[], #[], []⟩ with heap := ((World.holding Tryd.prog os ⟨#[], #[], []⟩).heap.modify 0 fun | .cells _ t frozen => .cells #[.int .u32 1779033703, .int .u32 3144134277, .int .u32 1013904242, .int .u32 2773480762, .int .u32 1359893119, .int .u32 2600822924, .int .u32 528734635, .int .u32 1541459225] t frozen | o => o).modify 1 fun | .cells _ t frozen => .cells #[.int .u32 1116352408, .int .u32 1899447441, .int .u32 3049323471, .int .u32 3921009573, .int .u32 961987163, .int .u32 1508970993, .int .u32 2453635748, .int .u32 2870763221, .int .u32 3624381080, .int .u32 310598401, .int .u32 607225278, .int .u32 1426881987, .int .u32 1925078388, .int .u32 2162078206, .int .u32 2614888103, .int .u32 3248222580, .int .u32 3835390401, .int .u32 4022224774, .int .u32 264347078, .int .u32 604807628, .int .u32 770255983, .int .u32 1249150122, .int .u32 1555081692, .int .u32 1996064986, .int .u32 2554220882, .int .u32 2821834349, .int .u32 2952996808, .int .u32 3210313671, .int .u32 3336571891, .int .u32 3584528711, .int .u32 113926993, .int .u32 338241895, .int .u32 666307205, .int .u32 773529912, .int .u32 1294757372, .int .u32 1396182291, .int .u32 1695183700, .int .u32 1986661051, .int .u32 2177026350, .int .u32 2456956037, .int .u32 2730485921, .int .u32 2820302411, .int .u32 3259730800, .int .u32 3345764771, .int .u32 3516065817, .int .u32 3600352804, .int .u32 4094571909, .int .u32 275423344, .int .u32 430227734, .int .u32 506948616, .int .u32 659060556, .int .u32 883997877, .int .u32 958139571, .int .u32 1322822218, .int .u32 1537002063, .int .u32 1747873779, .int .u32 1955562222, .int .u32 2024104815, .int .u32 2227730452, .int .u32 2361852424, .int .u32 2428436474, .int .u32 2756734187, .int .u32 3204031479, .int .u32 3329325298] t frozen | o => o } : World).forCall (fun _ _ => 0) ⟨#[], #[.string ByteArray.empty, .string ByteArray.empty, .int .i64 0, .slice none 0 0], []⟩).memory Tryd.f19.params.toList Rows.merkleBindsSpec.vars false (#[.string ByteArray.empty, .string ByteArray.empty, .int .i64 0, .slice none 0 0] : Array Value).toList 8 = some ([.lit (.string []), .lit (.string []), .lit (.int .i64 0), .nil], [], places) :=
  ⟨[], by kernel_rfl⟩

set_option maxRecDepth 100000 in
theorem lifted (os : Os) (started : os.Started) (H : Type) (enc : TypeId × Value → H) (F : Stop.Interp) :
    ReturnsInHanded {} Tryd.checked os 19 .any ((OpenSpec.ofChange Rows.merkleBindsSpec).preRow enc Tryd.prog Tryd.f19 Rows.merkleBindsRow.domain false Rows.merkleBindsRow.laid) (((OpenSpec.ofChange Rows.merkleBindsSpec).at F).post enc Tryd.prog Tryd.f19 false true false false) := by
  obtain ⟨places, hx⟩ := reads os enc
  refine returnsInHanded_of_row (C := Tryd.checked) (s := OpenSpec.ofChange Rows.merkleBindsSpec) own started (by kernel_rfl) Tryd.func19
    (witness_row_at (enc := enc) (C := Tryd.checked) false ({ World.holding Tryd.prog os ⟨#[], #[], []⟩ with heap := ((World.holding Tryd.prog os ⟨#[], #[], []⟩).heap.modify 0 fun | .cells _ t frozen => .cells #[.int .u32 1779033703, .int .u32 3144134277, .int .u32 1013904242, .int .u32 2773480762, .int .u32 1359893119, .int .u32 2600822924, .int .u32 528734635, .int .u32 1541459225] t frozen | o => o).modify 1 fun | .cells _ t frozen => .cells #[.int .u32 1116352408, .int .u32 1899447441, .int .u32 3049323471, .int .u32 3921009573, .int .u32 961987163, .int .u32 1508970993, .int .u32 2453635748, .int .u32 2870763221, .int .u32 3624381080, .int .u32 310598401, .int .u32 607225278, .int .u32 1426881987, .int .u32 1925078388, .int .u32 2162078206, .int .u32 2614888103, .int .u32 3248222580, .int .u32 3835390401, .int .u32 4022224774, .int .u32 264347078, .int .u32 604807628, .int .u32 770255983, .int .u32 1249150122, .int .u32 1555081692, .int .u32 1996064986, .int .u32 2554220882, .int .u32 2821834349, .int .u32 2952996808, .int .u32 3210313671, .int .u32 3336571891, .int .u32 3584528711, .int .u32 113926993, .int .u32 338241895, .int .u32 666307205, .int .u32 773529912, .int .u32 1294757372, .int .u32 1396182291, .int .u32 1695183700, .int .u32 1986661051, .int .u32 2177026350, .int .u32 2456956037, .int .u32 2730485921, .int .u32 2820302411, .int .u32 3259730800, .int .u32 3345764771, .int .u32 3516065817, .int .u32 3600352804, .int .u32 4094571909, .int .u32 275423344, .int .u32 430227734, .int .u32 506948616, .int .u32 659060556, .int .u32 883997877, .int .u32 958139571, .int .u32 1322822218, .int .u32 1537002063, .int .u32 1747873779, .int .u32 1955562222, .int .u32 2024104815, .int .u32 2227730452, .int .u32 2361852424, .int .u32 2428436474, .int .u32 2756734187, .int .u32 3204031479, .int .u32 3329325298] t frozen | o => o } : World) #[.string ByteArray.empty, .string ByteArray.empty, .int .i64 0, .slice none 0 0] rfl (by kernel_rfl) (by kernel_rfl) (by kernel_rfl)
      (OpenSpec.preRow_of_cond 8 hx (by kernel_rfl) (fun k hk => by cases hk) (by kernel_rfl) (laid_met os))) ?_
  intro W base args ds gs before hval hW _ _ _ hL _ _
  exact contract H enc W base args ds gs before hval hW hL

theorem said : Rows.MerkleBindsSaid :=
  OpenClaim.holds_of_cond 19 Tryd.f19 rfl rfl rfl rfl rfl rfl rfl ⟨rfl, rfl, rfl, rfl, rfl⟩ rfl rfl rfl rfl rfl (by kernel_rfl) Tryd.func19 (by kernel_rfl)
    (of_decide_eq_true (by kernel_rfl)) (by unfold Func.isWrapper; first | (rw [if_pos (by decide +kernel)]; kernel_rfl) | (rw [if_neg (by decide +kernel)]; exact ⟨rfl, rfl⟩))
    (fun os started H enc _ F => by rw [OpenClaim.pre_eq_preRow]; exact lifted os started H enc F)

theorem plain (f : FuncId) (fn : Func) (hf : Tryd.pinned.checked.prog.funcNamed Rows.merkleBindsRow.func = some f) (hfn : Tryd.pinned.checked.prog.funcs[f]? = some fn) :
    false = Tryd.pinned.checked.prog.looks [] ∧ ∀ (j : Nat) t, fn.params[j]? = some t → Tryd.pinned.checked.prog.wantsStandIn t = false := by
  obtain rfl : f = 19 := Option.some.inj ((show Tryd.prog.funcNamed Rows.merkleBindsRow.func = some 19 by kernel_rfl).symm.trans hf) |>.symm
  obtain rfl : fn = Tryd.f19 := (Option.some.inj (Tryd.func19.symm.trans hfn)).symm
  refine ⟨by kernel_rfl, fun j t ht => ?_⟩
  rw [Tryd.params19] at ht
  have hm : t = 9 ∨ t = 3 ∨ t = 25 := by first | simpa using Array.mem_of_getElem? ht | (have h := Array.mem_of_getElem? ht; simp only [List.mem_toArray, List.mem_cons, List.not_mem_nil, or_false] at h; rcases h with rfl | rfl | rfl | rfl <;> simp)
  rcases hm with rfl | rfl | rfl
  · exact (show Tryd.prog.wantsStandIn 9 = false by kernel_rfl)
  · exact (show Tryd.prog.wantsStandIn 3 = false by kernel_rfl)
  · exact (show Tryd.prog.wantsStandIn 25 = false by kernel_rfl)

theorem card : Rows.MerkleBindsCardSaid :=
  Claim7.holds_tied_plain_at .later [] _ _ _ _ said (fun _ h => by cases h) (by kernel_rfl) (fun _ h => by cases h) merkleBinds_row_tie rfl ⟨rfl, rfl⟩ (by kernel_rfl) rfl plain (by kernel_rfl)

end Go.Proofs.YtkpcobahkpiogaaDoor.MerkleBinds
namespace Go.Proofs.YtkpcobahkpiogaaDoor
theorem merkleBinds_card : Rows.MerkleBindsCardSaid := MerkleBinds.card
#print axioms merkleBinds_card
end Go.Proofs.YtkpcobahkpiogaaDoor

