/-
  P4.3: leaves of which one is another one have another root, or else two unlike texts that were summed have one digest: for every list of texts, number and text.
  The tables of the program start as its text lays them (the card ties them).
-/
import Derived.Test.YtkpcobahkpiogaaDoorLaid
import Derived.Test.YtkpcobahkpiogaaDoorM8
import Derived.ProofKit
import Derived.OpenShut
import Derived.ShutString
import Derived.ChangeOld
import Derived.SevenTiedAt
import Derived.SliceStrings
namespace Go.Proofs.YtkpcobahkpiogaaDoor.MerkleApart
open Go.ChangeShapes Go.WideShapes Go.ChangeAt Go.RowKit Go.Pal
open Go.ChangeMaps (open_string shut_string)
set_option linter.unusedVariables false


set_option maxHeartbeats 4000000 in
set_option maxRecDepth 100000 in
theorem walk (x : Option Addr) (c : Nat) (ps : List ByteArray) (i : Int) (t : ByteArray)
    (W : World) (hx : StrRow W x ps) (mx : ps.length ≤ maxLen ∧ ∀ s ∈ ps, s.size ≤ maxLen) (wi : (Lit.int .i64 i).wf = true) (htz : t.size ≤ maxLen) (ht : Tabs W) :
    Calls Tryd.prog 20 #[.slice x ps.length c, .int .i64 i, .string t] W fun e w' => e = .returned (.bool true) ∧ Below W.heap.size W w' := by
  obtain ⟨i0, hi0, hz0, hz1, hz2⟩ := info_parts (show (Tryd.prog.info? 9).map (fun i => (i.zero, i.size, i.bytes)) = some (some (.string ⟨#[]⟩), 1, 16) by kernel_rfl)
  have HI0 := Lib.hid hi0
  have HZ0 := Lib.hid hz0
  have HZ1 := Lib.hid hz1
  have HZ2 := Lib.hid hz2
  have HLG := Lib.hid (long4 W x c ps hx mx.1 mx.2)
  have HX := Lib.hid hx
  have HT := Lib.hid ht
  have HMX := Lib.hid mx.1
  unfold maxLen at htz
  clear hx mx ht wi hi0 hz0 hz1 hz2
  go_enter Tryd.func20, Tryd.ntmps20
  go_wp2_with fail
  refine HLG.out.mono ?_
  rintro e w1 ⟨⟨v, rfl, bb, rfl, hsm⟩, rfl⟩
  cases bb with
  | true =>
    clear hsm
    go_wp2_with fail
    refine (awake4_any _ HT.out).mono ?_
    rintro e w1 ⟨rfl, b1⟩
    go_wp2
    go_ret
    exact ⟨rfl, b1⟩
  | false =>
    have HSML := Lib.hid (hsm rfl)
    clear hsm HLG
    by_cases hlf : 300 < t.size
    · go_wp2_with fail
      refine (awake4_any _ HT.out).mono ?_
      rintro e w1 ⟨rfl, b1⟩
      go_wp2
      go_ret
      exact ⟨rfl, b1⟩
    have HMY := Lib.hid (may_any W ps.length)
    cases hmay : mayB ps.length with
    | false =>
      rw [hmay] at HMY
      clear hmay
      go_wp2_with fail
      refine HMY.out.mono ?_
      rintro e w2 ⟨rfl, rfl⟩
      go_wp2_with fail
      refine (awake4_any _ HT.out).mono ?_
      rintro e w1 ⟨rfl, b1⟩
      go_wp2
      go_ret
      exact ⟨rfl, b1⟩
    | true =>
      rw [hmay] at HMY
      obtain ⟨H, hH, hlen⟩ := may_pow _ hmay
      have h16 := pow_le16 H hH
      have hps16 : ps.length ≤ 16 := by omega
      have hsml := small_of_long ps (by omega) HSML.out
      have h0 : 0 < ps.length := by rw [hlen]; exact Nat.two_pow_pos H
      have hk : ∃ k : Nat, k < ps.length ∧ wrap64 ((IntKind.u64.wrap i).tmod (ps.length : Int)) = (k : Int) := by
        have hu : 0 ≤ IntKind.u64.wrap i := by rw [IntKind.wrap_u64]; omega
        rw [Int.tmod_eq_emod_of_nonneg hu]
        have h1 := Int.emod_lt_of_pos (IntKind.u64.wrap i) (show (0 : Int) < ps.length by omega)
        have h2 := Int.emod_nonneg (IntKind.u64.wrap i) (show (ps.length : Int) ≠ 0 by omega)
        rw [IntWalk.wrap64_in _ (by omega)]
        exact ⟨(IntKind.u64.wrap i % (ps.length : Int)).toNat, by omega, by omega⟩
      obtain ⟨k, hk1, hk2⟩ := hk
      have hk3 : k < 2 ^ H := by omega
      have HK := Lib.hid hk2
      have hsm2 := small_set ps k t hsml (by omega)
      obtain ⟨b, off, rfl, hbl⟩ := strRow_some HX.out h0
      have HR1 := Lib.hid (fun w' h hT => root_yes w' (some ⟨b, off, none⟩) c ps H hH hlen h hsml hT)
      have HR2 := Lib.hid (fun w' a2 c2 h hT => root_yes w' a2 c2 (ps.set k t) H hH (by rw [List.length_set, hlen]) h hsm2 hT)
      rw [own_root ps k H hlen hk3] at HR1
      rw [set_root ps k H t hlen hk3, List.length_set] at HR2
      have HRP := Lib.hid (fun w' (h : StrRow w' (some ⟨b, off, none⟩) ps) hb => refpath_any w' b off c ps H k hH hlen hk3 h hb hsml)
      have hsp := small_path ps k H hsml
      have hpl := pathTo_length ps k H
      have hsz : (ps.getD k ByteArray.empty).size ≤ 1000000 := hsml k
      have HRA := Lib.hid (fun w' a2 c2 (h : StrRow w' a2 (pathTo ps k H)) => reffold_yes w' (ps.getD k ByteArray.empty) k a2 c2 (pathTo ps k H) (by omega) (by rw [hpl]; exact hk3) hsz h hsp)
      have HRB := Lib.hid (fun w' a2 c2 (h : StrRow w' a2 (pathTo ps k H)) => reffold_yes w' t k a2 c2 (pathTo ps k H) (by omega) (by rw [hpl]; exact hk3) (by omega) h hsp)
      rw [hpl] at HRA HRB
      have hclash := fold_clash (ps.getD k ByteArray.empty) t k (pathTo ps k H) hsz (by omega) hsp
      have HSA := Lib.hid (stepIn_size (ps.getD k ByteArray.empty) k (pathTo ps k H) hsz hsp)
      have HSB := Lib.hid (stepIn_size t k (pathTo ps k H) (by omega) hsp)
      have HLA := Lib.hid (roadTo_length (ps.getD k ByteArray.empty) k (pathTo ps k H) H)
      have HLB := Lib.hid (roadTo_length t k (pathTo ps k H) H)
      have HGA := Lib.hid (fun q h => roadTo_get (ps.getD k ByteArray.empty) k (pathTo ps k H) H q h)
      have HGB := Lib.hid (fun q h => roadTo_get t k (pathTo ps k H) H q h)
      have HCK := Lib.hid (fun (w' : World) (h : StrRow w' (some ⟨b, off, none⟩) ps) => strRow_cell h k hk1)
      generalize hL : ps.getD k ByteArray.empty = L at *
      generalize pathTo ps k H = PT at *
      have hcase : (t = L) ∨ (t ≠ L ∧ foldAt L k PT H ≠ foldAt t k PT H) ∨ (t ≠ L ∧ foldAt L k PT H = foldAt t k PT H ∧ ∃ q, q < H ∧ stepIn L k PT q ≠ stepIn t k PT q ∧ shaB (stepIn L k PT q) = shaB (stepIn t k PT q)) := by
        by_cases h1 : t = L
        · exact .inl h1
        · by_cases h2 : foldAt L k PT H = foldAt t k PT H
          · exact .inr (.inr ⟨h1, h2, hclash (Ne.symm h1) H h2⟩)
          · exact .inr (.inl ⟨h1, h2⟩)
      have HAP := Lib.hid (World.ownsRow_lit (base := W.heap.size) (e := 9) (size := 1) W #[] 0 (Nat.le_refl _) (by unfold maxLen; omega) rfl)
      have HC1 : Hid (0 + ps.length ≤ maxLen) := Lib.hid (by unfold maxLen; omega)
      have HC2 : Hid ((0 + ps.length) * 16 ≤ 140737488355328) := Lib.hid (by omega)
      have HNW := Lib.hid (strRow_news (strRow_alloc HX.out (.cells #[] 9)))
      have HSZ : Hid (W.heap.size ≤ (W.alloc (.cells #[] 9)).heap.size) := Lib.hid (by simp)
      clear hk2 hclash hsml hmay HSML hlen hsm2 hsp hpl hsz hL hk3
      go_wp2_with fail
      refine HMY.out.mono ?_
      rintro e w2 ⟨rfl, rfl⟩
      go_wp2_with (at_builtin; refine wpList_append_lies _ rfl _ _ 25 rfl W.heap.size 9 i0 (.string ⟨#[]⟩) 1 16 Tryd.underlying25 HI0.out HZ0.out HZ1.out HZ2.out rfl (by omega) _ 0 [] rfl HAP.out ⟨b, off, none⟩ ps.length _ (ps.map strV) rfl (by simp) HNW.out (strs_one ps) h0 HC1.out HC2.out HSZ.out (W.heap.size + 1) (by simp) ?_)
      intro g cap w3 hown3 hg3 _ hlt3
      have b3 := ((Below.refl W.heap.size W).alloc (Nat.le_refl _) (.cells #[] 9)).grown hg3 HSZ.out (fun j hj => by cases hj; exact Nat.le_refl _)
      have hgb : W.heap.size ≤ g := (hown3.lt g rfl).1
      have hcg : w3.cell? ⟨g, k, none⟩ = some (.string (ps.getD k ByteArray.empty)) := (hown3.cellAt k (by omega)).trans (strs_get? ps k hk1)
      have hfg := hown3.frozenAt k
      have o4 := (hown3.stored k (.string t)).1
      rw [show (ps.map strV).set k (Value.string t) = (ps.set k t).map strV from (List.map_set ..).symm] at o4
      have b4 := b3.setCell (p := ⟨g, k, none⟩) hgb (.string t)
      have HO4 := Lib.hid o4
      have HB4 := Lib.hid b4
      clear hown3 hg3 b3 o4 b4
      rw [HK.out]
      go_wp2_with fail
      clear hcg hfg
      generalize w3.setCell ⟨g, k, none⟩ (.string t) = w4 at *
      refine (HR1.out _ (HX.out.below HB4.out) (HT.out.below HB4.out)).mono ?_
      rintro e w5 ⟨rfl, b5⟩
      have C5 := Lib.hid (HB4.out.trans (b5.mono HB4.out.size))
      have o5 := HO4.out.kept (Lib.grownBy_below (World.grownBy.refl w4 none) b5) (by simp [Value.ownBlock])
      obtain ⟨a5, c5, he5, hrow5⟩ := own_strs o5 (by rw [List.length_set])
      have HROW5 := Lib.hid hrow5
      obtain ⟨rfl, _, rfl⟩ : a5 = some ⟨g, 0, none⟩ ∧ True ∧ c5 = cap := by
        simp at he5; exact ⟨he5.1.symm, trivial, he5.2.symm⟩
      clear b5 o5 hrow5 HB4 HO4 HR1 he5
      go_wp2_with fail
      refine (HR2.out _ _ _ HROW5.out (HT.out.below C5.out)).mono ?_
      rintro e w6 ⟨rfl, b6⟩
      have C6 := Lib.hid (C5.out.trans (b6.mono C5.out.size))
      have ck := HCK.out _ (HX.out.below C6.out)
      clear b6 C5 HR2 HROW5
      rcases hcase with rfl | ⟨hne, hf⟩ | ⟨hne, hf, hex⟩
      · generalize foldAt t k PT H = FA at *
        go_wp2_with fail
        refine (awake4_any _ (HT.out.below C6.out)).mono ?_
        rintro e w7 ⟨rfl, b7⟩
        go_wp2
        go_ret
        exact ⟨rfl, C6.out.trans (b7.mono C6.out.size)⟩
      · generalize foldAt L k PT H = FA at *
        generalize foldAt t k PT H = FB at *
        have h1 := beqF hne
        have h2 := beqF hf
        clear hne hf
        go_wp2_with fail
        refine (awake4_any _ (HT.out.below C6.out)).mono ?_
        rintro e w7 ⟨rfl, b7⟩
        go_wp2
        go_ret
        exact ⟨rfl, C6.out.trans (b7.mono C6.out.size)⟩
      · have h1 := beqF hne
        have HEX := Lib.hid hex
        generalize foldAt L k PT H = FA at *
        generalize foldAt t k PT H = FB at *
        subst hf
        clear hne hex
        go_wp2_with fail
        refine (HRP.out _ (HX.out.below C6.out) (Nat.lt_of_lt_of_le hbl C6.out.size)).mono ?_
        rintro e w7 ⟨⟨a7, c7, rfl, hrow7⟩, b7⟩
        have C7 := Lib.hid (C6.out.trans (b7.mono C6.out.size))
        have R7 := Lib.hid hrow7
        have ck7 := HCK.out _ (HX.out.below C7.out)
        clear b7 hrow7 ck C6 HRP
        go_wp2_with fail
        refine (HRA.out _ _ _ R7.out).mono ?_
        rintro e w8 ⟨⟨v, rfl, hown8⟩, b8⟩
        obtain ⟨a8, c8, rfl, row8⟩ := own_strs hown8 HLA.out
        have C8 := Lib.hid (C7.out.trans (b8.mono C7.out.size))
        have R8 := Lib.hid row8
        have R78 := Lib.hid (R7.out.below b8)
        clear b8 hown8 row8 C7 R7 ck7
        go_wp2_with fail
        refine (HRB.out _ _ _ R78.out).mono ?_
        rintro e w9 ⟨⟨v, rfl, hown9⟩, b9⟩
        obtain ⟨a9, c9, rfl, row9⟩ := own_strs hown9 HLB.out
        rw [HLA.out, HLB.out]
        have C9 := Lib.hid (C8.out.trans (b9.mono C8.out.size))
        have R5 := Lib.hid row9
        have R6 := Lib.hid (R8.out.below b9)
        clear b9 hown9 row9 C8 R8 R78 HRA HRB h1
        generalize roadTo L k PT H = RA at *
        generalize roadTo t k PT H = RB at *
        generalize stepIn L k PT = SA at *
        generalize stepIn t k PT = SB at *
        generalize k = kk at *
        go_wp2
        go_loopw [20] (fun vi wr => ∃ k : Nat, k ≤ H ∧ vi = .int .i64 k ∧ (∀ q, q < k → ¬ (SA q ≠ SB q ∧ shaB (SA q) = shaB (SB q))) ∧ Below w9.heap.size w9 wr) (fun vi _ => H - (intOf vi).toNat)
        case atStart => exact ⟨0, by omega, rfl, fun q hq => by omega, Below.refl _ _⟩
        case round =>
          obtain ⟨k, hk, rfl, hall, hb5⟩ := hrel
          have HALL := Lib.hid hall
          clear hall
          by_cases hlt : k < H
          · have hla := HLA.out
            have hlb := HLB.out
            rcases R6.out with e0 | ⟨g1, o1, rfl, hg1, hc1⟩
            · rw [e0] at hla; simp at hla; omega
            rcases R5.out with e0 | ⟨g2, o2, rfl, hg2, hc2⟩
            · rw [e0] at hlb; simp at hlb; omega
            have k1 := hc1 k (by omega)
            have k2 := hc2 k (by omega)
            rw [HGA.out k hlt] at k1
            rw [HGB.out k hlt] at k2
            have z1 := HSA.out k
            have z2 := HSB.out k
            have q1 := (hb5.cell (p := ⟨g1, o1 + k, none⟩) hg1).trans k1
            have q2 := (hb5.cell (p := ⟨g2, o2 + k, none⟩) hg2).trans k2
            generalize hXA : SA k = XA at *
            generalize hXB : SB k = XB at *
            have HXA := Lib.hid hXA
            have HXB := Lib.hid hXB
            have HB5 := Lib.hid hb5
            clear hc1 hc2 hla hlb hXA hXB HEX HGA HGB
            by_cases hd : XA = XB
            · subst hd
              clear z2
              go_wp2
              go_quiet (fail)
              go_wp2
              go_roundw
              case rel =>
                refine ⟨k + 1, by omega, by go_num, fun q hq => ?_, below_drewN HB5.out _⟩
                by_cases hqk : q = k
                · subst hqk; rw [HXA.out, HXB.out]; exact fun h => h.1 rfl
                · exact HALL.out q (by omega)
              case measure => simp [intOf]; omega
            · have hn := beqF hd
              have HD := Lib.hid hd
              have HRS := Lib.hid (fun (X : ByteArray) (hX : X.size ≤ 9000000) (Wq : World) (hWq : Below w9.heap.size w9 Wq) => (refsum_any Wq X (by omega)).mono (fun e w' (h : e = .returned (.string (shaB X)) ∧ Below Wq.heap.size Wq w') => (show e = .returned (.string (shaB X)) ∧ Below w9.heap.size w9 w' from ⟨h.1, hWq.trans (h.2.mono hWq.size)⟩)))
              have bdr : Below w9.heap.size w9 wr.drew := HB5.out.drew
              have hk0 : (0 : Int) ≤ (k : Int) := by omega
              have hk1 : (k : Int) < (H : Int) := by omega
              clear hd hb5
              go_wp2
              go_region_held3 (fun w' => w'.cell? ⟨g1, o1 + k, none⟩ = some (.string XA) ∧ w'.cell? ⟨g2, o2 + k, none⟩ = some (.string XB) ∧ Below w9.heap.size w9 w')
                (first | exact ⟨(b7.cell (p := ⟨g1, o1 + k, none⟩) hg1).trans k1, (b7.cell (p := ⟨g2, o2 + k, none⟩) hg2).trans k2, b7⟩ | exact (b7.cell (p := ⟨g1, o1 + k, none⟩) hg1).trans k1 | exact (b7.cell (p := ⟨g2, o2 + k, none⟩) hg2).trans k2 | exact b7 | exact ⟨q1, q2, bdr⟩ | exact bdr | go_keep)
                ((go_at_call 22; refine (HRS.out _ (by assumption) _ (by first | exact b7 | exact bdr)).mono ?_; rintro e w7 ⟨rfl, b7⟩))
              clear HRS
              generalize hDA : shaB XA = DA at *
              generalize hDB : shaB XB = DB at *
              have HDA := Lib.hid hDA
              have HDB := Lib.hid hDB
              clear hDA hDB
              by_cases hs : DA = DB
              · subst hs
                rw [show (DA.toList == DA.toList) = true by simp]
                have C7 := Lib.hid (C9.out.trans (b7.mono C9.out.size))
                clear b7 k1 k2 q1 q2
                go_wp2_with fail
                refine (awake4_any _ (HT.out.below C7.out)).mono ?_
                rintro e w8 ⟨rfl, b8⟩
                go_wp2
                go_ret
                exact ⟨rfl, C7.out.trans (b8.mono C7.out.size)⟩
              · rw [beqF hs]
                have B7 := Lib.hid b7
                have HS := Lib.hid hs
                clear hs b7 k1 k2 q1 q2
                go_wp2
                go_roundw
                case rel =>
                  refine ⟨k + 1, by omega, by go_num, fun q hq => ?_, B7.out⟩
                  by_cases hqk : q = k
                  · subst hqk; rw [HXA.out, HXB.out]; exact fun h => HS.out (by rw [← HDA.out, ← HDB.out]; exact h.2)
                  · exact HALL.out q (by omega)
                case measure => simp [intOf]; omega
          · exfalso
            obtain rfl : k = H := by omega
            obtain ⟨q, h1, h2⟩ := HEX.out
            exact HALL.out q h1 h2

theorem own : ownKnob Tryd.prog.godebug = none := by kernel_rfl
theorem laidOut : laidOutB Tryd.prog = true := by kernel_rfl

set_option maxRecDepth 100000 in
theorem contract (H : Type) (enc : TypeId × Value → H) (W : World) (base : Nat) (args : Array Value) (ds gs : List (DataW H)) (before : List MemPlace)
    (hval : ∀ (j : Nat) t v, Tryd.f20.params[j]? = some t → args[j]? = some v → Value.okWide Tryd.prog W .any base t v)
    (hW : DataW.Whole enc Tryd.prog Tryd.f20.params.toList Rows.merkleApartSpec.vars false W args.toList ds gs before) (hL : laidMetH Tryd.prog Rows.merkleApartRow.laid W) :
    Calls Tryd.prog 20 args W fun e W' => ∃ v, e = .returned v ∧ Rows.merkleApartSpec.post enc Tryd.prog Tryd.f20 false true false false W args v W' := by
  have hW' := hW
  obtain ⟨p, q, hA0, hV, rfl, hfz, hnd⟩ := hW
  have hA : DataW.TrodAll enc Tryd.prog W 0 (fun _ => true) true Tryd.f20.params.toList args.toList ds p := hA0
  rw [Tryd.params20] at hA hval
  obtain ⟨v0, vs0, d0, ds0, p0, q0, hargs, rfl, rfl, h0, r0⟩ := trodAll_cons hA
  obtain ⟨v1, vs1, d1, ds1, p1, q1, rfl, rfl, rfl, h1, r1⟩ := trodAll_cons r0
  obtain ⟨v2, vs2, d2, ds2, p2, q2, rfl, rfl, rfl, h2, r2⟩ := trodAll_cons r1
  obtain ⟨rfl, rfl, rfl⟩ := trodAll_nil r2
  obtain rfl : args = #[v0, v1, v2] := by cases args; simp_all
  obtain ⟨rfl, rfl⟩ := trodVars_none hV
  obtain ⟨x0, len0, cap0, rfl⟩ := okWide_slice Tryd.underlying25 (hval 0 25 v0 rfl rfl)
  have k0 := h0
  have lt0 : ∀ x ∈ p0, x.block < W.heap.size := by obtain ⟨m, hm⟩ := k0; exact DataW.trod_lt m _ _ _ hm
  obtain ⟨ss0, rfl, i0, m0⟩ : ∃ ss : List ByteArray, len0 = ss.length ∧ StrRow W x0 ss ∧ ss.length ≤ maxLen ∧ ∀ s ∈ ss, s.size ≤ maxLen := by
    obtain ⟨fuel, hf⟩ := h0
    rcases open_strings Tryd.underlying25 Tryd.underlying9 (by kernel_rfl) hf with ⟨hcs, _⟩ | ⟨x, l, c, ss, hcs, _, hl, hm, hz, _, hcell, hws⟩
    · simp [Value.cells] at hcs
      obtain ⟨rfl, rfl, rfl⟩ := hcs
      exact ⟨[], rfl, .inl rfl, Nat.zero_le _, fun s hs => by cases hs⟩
    · simp [Value.cells] at hcs
      obtain ⟨rfl, rfl, rfl⟩ := hcs
      have hz2 : ss.length = cap0 := hz.trans (if_pos rfl)
      refine ⟨ss.take len0, by simp; omega, ?_, by simp; omega, fun s hs => hws s (List.mem_of_mem_take hs)⟩
      by_cases hz0 : len0 = 0
      · exact .inl (by rw [hz0, List.take_zero])
      obtain ⟨b, off, spot⟩ := x
      have hspot : spot = none := by simpa [Addr.add] using World.cell?_spot (hcell 0 (by omega))
      subst hspot
      refine .inr ⟨b, off, rfl, ?_, fun i hi => ?_⟩
      · have hc := hcell 0 (by omega)
        rcases Nat.lt_or_ge b W.heap.size with h1 | h1
        · exact h1
        · simp [World.cell?, Addr.add, Array.getElem?_eq_none h1] at hc
      · have hi' : i < len0 := by simp at hi; omega
        have hc := hcell i (by omega)
        rw [add_plain] at hc
        rw [hc]
        simp [List.getD, hi']
  obtain ⟨a1, rfl, rfl, rfl, w1⟩ := open_int Tryd.underlying3 (hval 1 3 v1 rfl rfl) h1
  obtain ⟨a2, rfl, rfl, rfl, w2⟩ := open_string Tryd.underlying9 (hval 2 9 v2 rfl rfl) h2
  clear hA0
  refine (walk x0 cap0 ss0 a1 a2 W i0 m0 w1 w2 (tabs_of_laid hL)).mono fun e W' ⟨he, bel⟩ => ?_
  subst he
  exact ⟨_, rfl, _, _, _, [], _, [], hW', trodAll_mk1 (shut_bool Tryd.underlying4 _), (trodAll_cons_mk (Below.trod laidOut (by kernel_rfl) (of_decide_eq_true (by kernel_rfl)) k0 bel lt0) (trodAll_cons_mk (shut_int Tryd.underlying3 w1) (trodAll_cons_mk (shut_string Tryd.underlying9 w2) trodAll_mk0))), rfl, bel.frame _, fun h => by cases h⟩

theorem laid_met (os : Os) : laidMet Tryd.prog Rows.merkleApartRow.laid (({ World.holding Tryd.prog os ⟨#[], #[], []⟩ with heap := ((World.holding Tryd.prog os ⟨#[], #[], []⟩).heap.modify 0 fun | .cells _ t frozen => .cells #[.int .u32 1779033703, .int .u32 3144134277, .int .u32 1013904242, .int .u32 2773480762, .int .u32 1359893119, .int .u32 2600822924, .int .u32 528734635, .int .u32 1541459225] t frozen | o => o).modify 1 fun | .cells _ t frozen => .cells #[.int .u32 1116352408, .int .u32 1899447441, .int .u32 3049323471, .int .u32 3921009573, .int .u32 961987163, .int .u32 1508970993, .int .u32 2453635748, .int .u32 2870763221, .int .u32 3624381080, .int .u32 310598401, .int .u32 607225278, .int .u32 1426881987, .int .u32 1925078388, .int .u32 2162078206, .int .u32 2614888103, .int .u32 3248222580, .int .u32 3835390401, .int .u32 4022224774, .int .u32 264347078, .int .u32 604807628, .int .u32 770255983, .int .u32 1249150122, .int .u32 1555081692, .int .u32 1996064986, .int .u32 2554220882, .int .u32 2821834349, .int .u32 2952996808, .int .u32 3210313671, .int .u32 3336571891, .int .u32 3584528711, .int .u32 113926993, .int .u32 338241895, .int .u32 666307205, .int .u32 773529912, .int .u32 1294757372, .int .u32 1396182291, .int .u32 1695183700, .int .u32 1986661051, .int .u32 2177026350, .int .u32 2456956037, .int .u32 2730485921, .int .u32 2820302411, .int .u32 3259730800, .int .u32 3345764771, .int .u32 3516065817, .int .u32 3600352804, .int .u32 4094571909, .int .u32 275423344, .int .u32 430227734, .int .u32 506948616, .int .u32 659060556, .int .u32 883997877, .int .u32 958139571, .int .u32 1322822218, .int .u32 1537002063, .int .u32 1747873779, .int .u32 1955562222, .int .u32 2024104815, .int .u32 2227730452, .int .u32 2361852424, .int .u32 2428436474, .int .u32 2756734187, .int .u32 3204031479, .int .u32 3329325298] t frozen | o => o } : World).forCall (fun _ _ => 0) ⟨#[], #[.slice none 0 0, .int .i64 0, .string ByteArray.empty], []⟩).memory :=
  laidMet_of_run' 8 (by kernel_rfl) (by kernel_rfl)
theorem reads (os : Os) {H : Type} (enc : TypeId × Value → H) : ∃ places, DataW.whole enc Tryd.prog (({ World.holding Tryd.prog os ⟨#[], #[], []⟩ with heap := ((World.holding Tryd.prog os ⟨#[], #[], []⟩).heap.modify 0 fun | .cells _ t frozen => .cells #[.int .u32 1779033703, .int .u32 3144134277, .int .u32 1013904242, .int .u32 2773480762, .int .u32 1359893119, .int .u32 2600822924, .int .u32 528734635, .int .u32 1541459225] t frozen | o => o).modify 1 fun | .cells _ t frozen => .cells #[.int .u32 1116352408, .int .u32 1899447441, .int .u32 3049323471, .int .u32 3921009573, .int .u32 961987163, .int .u32 1508970993, .int .u32 2453635748, .int .u32 2870763221, .int .u32 3624381080, .int .u32 310598401, .int .u32 607225278, .int .u32 1426881987, .int .u32 1925078388, .int .u32 2162078206, .int .u32 2614888103, .int .u32 3248222580, .int .u32 3835390401, .int .u32 4022224774, .int .u32 264347078, .int .u32 604807628, .int .u32 770255983, .int .u32 1249150122, .int .u32 1555081692, .int .u32 1996064986, .int .u32 2554220882, .int .u32 2821834349, .int .u32 2952996808, .int .u32 3210313671, .int .u32 3336571891, .int .u32 3584528711, .int .u32 113926993, .int .u32 338241895, .int .u32 666307205, .int .u32 773529912, .int .u32 1294757372, .int .u32 1396182291, .int .u32 1695183700, .int .u32 1986661051, .int .u32 2177026350, .int .u32 2456956037, .int .u32 2730485921, .int .u32 2820302411, .int .u32 3259730800, .int .u32 3345764771, .int .u32 3516065817, .int .u32 3600352804, .int .u32 4094571909, .int .u32 275423344, .int .u32 430227734, .int .u32 506948616, .int .u32 659060556, .int .u32 883997877, .int .u32 958139571, .int .u32 1322822218, .int .u32 1537002063, .int .u32 1747873779, .int .u32 1955562222, .int .u32 2024104815, .int .u32 2227730452, .int .u32 2361852424, .int .u32 2428436474, .int .u32 2756734187, .int .u32 3204031479, .int .u32 3329325298] t frozen | o => o } : World).forCall (fun _ _ => 0) ⟨#[], #[.slice none 0 0, .int .i64 0, .string ByteArray.empty], []⟩).memory Tryd.f20.params.toList Rows.merkleApartSpec.vars false (#[.slice none 0 0, .int .i64 0, .string ByteArray.empty] : Array Value).toList 8 = some ([.nil, .lit (.int .i64 0), .lit (.string [])], [], places) :=
  ⟨[], by kernel_rfl⟩

set_option maxRecDepth 100000 in
theorem lifted (os : Os) (started : os.Started) (H : Type) (enc : TypeId × Value → H) (F : Stop.Interp) :
    ReturnsInHanded {} Tryd.checked os 20 .any ((OpenSpec.ofChange Rows.merkleApartSpec).preRow enc Tryd.prog Tryd.f20 Rows.merkleApartRow.domain false Rows.merkleApartRow.laid) (((OpenSpec.ofChange Rows.merkleApartSpec).at F).post enc Tryd.prog Tryd.f20 false true false false) := by
  obtain ⟨places, hx⟩ := reads os enc
  refine returnsInHanded_of_row (C := Tryd.checked) (s := OpenSpec.ofChange Rows.merkleApartSpec) own started (by kernel_rfl) Tryd.func20
    (witness_row_at (enc := enc) (C := Tryd.checked) false ({ World.holding Tryd.prog os ⟨#[], #[], []⟩ with heap := ((World.holding Tryd.prog os ⟨#[], #[], []⟩).heap.modify 0 fun | .cells _ t frozen => .cells #[.int .u32 1779033703, .int .u32 3144134277, .int .u32 1013904242, .int .u32 2773480762, .int .u32 1359893119, .int .u32 2600822924, .int .u32 528734635, .int .u32 1541459225] t frozen | o => o).modify 1 fun | .cells _ t frozen => .cells #[.int .u32 1116352408, .int .u32 1899447441, .int .u32 3049323471, .int .u32 3921009573, .int .u32 961987163, .int .u32 1508970993, .int .u32 2453635748, .int .u32 2870763221, .int .u32 3624381080, .int .u32 310598401, .int .u32 607225278, .int .u32 1426881987, .int .u32 1925078388, .int .u32 2162078206, .int .u32 2614888103, .int .u32 3248222580, .int .u32 3835390401, .int .u32 4022224774, .int .u32 264347078, .int .u32 604807628, .int .u32 770255983, .int .u32 1249150122, .int .u32 1555081692, .int .u32 1996064986, .int .u32 2554220882, .int .u32 2821834349, .int .u32 2952996808, .int .u32 3210313671, .int .u32 3336571891, .int .u32 3584528711, .int .u32 113926993, .int .u32 338241895, .int .u32 666307205, .int .u32 773529912, .int .u32 1294757372, .int .u32 1396182291, .int .u32 1695183700, .int .u32 1986661051, .int .u32 2177026350, .int .u32 2456956037, .int .u32 2730485921, .int .u32 2820302411, .int .u32 3259730800, .int .u32 3345764771, .int .u32 3516065817, .int .u32 3600352804, .int .u32 4094571909, .int .u32 275423344, .int .u32 430227734, .int .u32 506948616, .int .u32 659060556, .int .u32 883997877, .int .u32 958139571, .int .u32 1322822218, .int .u32 1537002063, .int .u32 1747873779, .int .u32 1955562222, .int .u32 2024104815, .int .u32 2227730452, .int .u32 2361852424, .int .u32 2428436474, .int .u32 2756734187, .int .u32 3204031479, .int .u32 3329325298] t frozen | o => o } : World) #[.slice none 0 0, .int .i64 0, .string ByteArray.empty] rfl (by kernel_rfl) (by kernel_rfl) (by kernel_rfl)
      (OpenSpec.preRow_of_cond 8 hx (by kernel_rfl) (fun k hk => by cases hk) (by kernel_rfl) (laid_met os))) ?_
  intro W base args ds gs before hval hW _ _ _ hL _ _
  exact contract H enc W base args ds gs before hval hW hL

theorem said : Rows.MerkleApartSaid :=
  OpenClaim.holds_of_cond 20 Tryd.f20 rfl rfl rfl rfl rfl rfl rfl ⟨rfl, rfl, rfl, rfl, rfl⟩ rfl rfl rfl rfl rfl (by kernel_rfl) Tryd.func20 (by kernel_rfl)
    (of_decide_eq_true (by kernel_rfl)) (by unfold Func.isWrapper; first | (rw [if_pos (by decide +kernel)]; kernel_rfl) | (rw [if_neg (by decide +kernel)]; exact ⟨rfl, rfl⟩))
    (fun os started H enc _ F => by rw [OpenClaim.pre_eq_preRow]; exact lifted os started H enc F)

theorem plain (f : FuncId) (fn : Func) (hf : Tryd.pinned.checked.prog.funcNamed Rows.merkleApartRow.func = some f) (hfn : Tryd.pinned.checked.prog.funcs[f]? = some fn) :
    false = Tryd.pinned.checked.prog.looks [] ∧ ∀ (j : Nat) t, fn.params[j]? = some t → Tryd.pinned.checked.prog.wantsStandIn t = false := by
  obtain rfl : f = 20 := Option.some.inj ((show Tryd.prog.funcNamed Rows.merkleApartRow.func = some 20 by kernel_rfl).symm.trans hf) |>.symm
  obtain rfl : fn = Tryd.f20 := (Option.some.inj (Tryd.func20.symm.trans hfn)).symm
  refine ⟨by kernel_rfl, fun j t ht => ?_⟩
  rw [Tryd.params20] at ht
  have hm : t = 25 ∨ t = 3 ∨ t = 9 := by first | simpa using Array.mem_of_getElem? ht | (have h := Array.mem_of_getElem? ht; simp only [List.mem_toArray, List.mem_cons, List.not_mem_nil, or_false] at h; rcases h with rfl | rfl | rfl <;> simp)
  rcases hm with rfl | rfl | rfl
  · exact (show Tryd.prog.wantsStandIn 25 = false by kernel_rfl)
  · exact (show Tryd.prog.wantsStandIn 3 = false by kernel_rfl)
  · exact (show Tryd.prog.wantsStandIn 9 = false by kernel_rfl)

theorem card : Rows.MerkleApartCardSaid :=
  Claim7.holds_tied_plain_at .later [] _ _ _ _ said (fun _ h => by cases h) (by kernel_rfl) (fun _ h => by cases h) merkleApart_row_tie rfl ⟨rfl, rfl⟩ (by kernel_rfl) rfl plain (by kernel_rfl)

end Go.Proofs.YtkpcobahkpiogaaDoor.MerkleApart
namespace Go.Proofs.YtkpcobahkpiogaaDoor
theorem merkleApart_card : Rows.MerkleApartCardSaid := MerkleApart.card
#print axioms merkleApart_card
end Go.Proofs.YtkpcobahkpiogaaDoor

