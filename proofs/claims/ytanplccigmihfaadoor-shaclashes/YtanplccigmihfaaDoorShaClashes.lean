/-
  P2.3: of any texts two that are unlike and have one digest, the lowest; or that there are none such: for every list of texts.
  The tables of the program start as its text lays them (the card ties them).
-/
import Derived.Test.YtanplccigmihfaaDoorLaid
import Derived.Test.YtanplccigmihfaaDoorC1
import Derived.Test.YtanplccigmihfaaDoorRefSum
import Derived.ProofKit
import Derived.OpenShut
import Derived.ShutString
import Derived.ChangeOld
import Derived.SevenTiedAt
import Derived.SliceStrings
namespace Go.Proofs.YtanplccigmihfaaDoor.ShaClashes
open Go.ChangeShapes Go.WideShapes Go.ChangeAt Go.RowKit Go.Pal
open Go.ChangeMaps (open_string shut_string)
set_option linter.unusedVariables false

theorem txt_tot (l : List ByteArray) (i : Nat) : (txt l i).size ≤ totL l := by
  by_cases hi : i < l.length
  · have := size_le_tot l i hi
    unfold txt; omega
  · unfold txt
    rw [List.getD_eq_getElem?_getD, List.getElem?_eq_none (by omega)]; exact Nat.zero_le _

theorem clash_any (w : World) (a : Option Addr) (cap : Nat) (l : List ByteArray) (hr : StrRow w a l) (hl : l.length ≤ 100000) (hsz : ∀ i, (txt l i).size ≤ 1000000) (ht : Tabs w) :
    Calls Tryd.prog 7 #[.slice a l.length cap] w fun e w' => (∃ lo hi fd, e = .returned (.tuple #[.int .i64 ((lo : Nat) : Int), .int .i64 ((hi : Nat) : Int), .bool fd]) ∧ Best l l.length lo hi fd) ∧ Below w.heap.size w w' := by
  have HC := Lib.hid (clashBy_any w a cap l hr hl hsz ht)
  clear hr hl hsz ht
  go_enter Tryd.func7, Tryd.ntmps7
  go_wp2_with fail
  refine HC.out.mono ?_
  rintro e w1 ⟨⟨lo, hi, fd, rfl, hbe⟩, b1⟩
  have HBE := Lib.hid hbe
  have HB := Lib.hid b1
  clear hbe b1
  go_wp2
  go_ret3
  exact ⟨⟨lo, hi, fd, rfl, HBE.out⟩, HB.out⟩

set_option maxHeartbeats 4000000 in
set_option maxRecDepth 100000 in
theorem walk (x : Option Addr) (cap : Nat) (l : List ByteArray) (w : World) (hr : StrRow w x l) (hms : l.length ≤ maxLen ∧ ∀ s ∈ l, s.size ≤ maxLen) (ht : Tabs w) :
    Calls Tryd.prog 3 #[.slice x l.length cap] w fun e w' => e = .returned (.bool true) ∧ Below w.heap.size w w' := by
  have HAW := Lib.hid (fun (W : World) (hb : Below w.heap.size w W) => awake_any W (ht.below hb))
  have HSI := Lib.hid (size_any w x cap l hr hms.1 hms.2)
  have HR := Lib.hid hr
  have HT := Lib.hid ht
  have hnot : ∀ (x : Bool) (w : World), (Op.unary .not (.bool x)).run Tryd.prog w = .ok (.bool (!x)) w := fun _ _ => rfl
  clear hr hms ht
  go_enter Tryd.func3, Tryd.ntmps3
  go_wp2_with fail
  refine HSI.out.mono ?_
  rintro e w1 ⟨⟨n, rfl, hn1, hn2⟩, rfl⟩
  by_cases hn : 2000 < n
  · have hni : (2000 : Int) < (n : Int) := by omega
    clear hn2
    go_wp2_with (go_at_call 6; refine (HAW.out _ (Below.refl _ _)).mono ?_; rintro e w2 ⟨rfl, b2⟩)
    go_ret
    exact ⟨rfl, b2⟩
  have hni : ¬ (2000 : Int) < (n : Int) := by omega
  obtain ⟨htot, hll⟩ := hn2 (by omega)
  have hl2 : l.length ≤ 2000 := by omega
  have HSZ := Lib.hid (fun i => (show (txt l i).size ≤ 2000 by have := txt_tot l i; omega))
  have HCL := Lib.hid (clash_any w x cap l HR.out (by omega) (fun i => by have := HSZ.out i; omega) HT.out)
  clear htot hll hn2 HSI
  go_wp2_with fail
  refine HCL.out.mono ?_
  rintro e w2 ⟨⟨lo, hi, fd, rfl, hbe⟩, b2⟩
  have HBE := Lib.hid hbe
  have B2 := Lib.hid b2
  clear hbe b2 HCL
  go_wp2
  go_loopw [6] (fun va wr => ∃ a : Nat, a ≤ l.length ∧ va = .int .i64 a ∧ (∀ x y, x < a → y < l.length → ¬ Cl l x y) ∧ Below w.heap.size w wr) (fun va _ => l.length - (intOf va).toNat)
  case atStart => exact ⟨0, by omega, rfl, fun x y h => absurd h (Nat.not_lt_zero x), B2.out⟩
  case round =>
    obtain ⟨a, ha, rfl, hno, hb⟩ := hrel
    have HNO := Lib.hid hno
    have HB := Lib.hid hb
    clear hno hb
    by_cases hal : a < l.length
    · have hald : decide ((a : Int) < (l.length : Int)) = true := decide_eq_true (by omega)
      have hw : IntKind.i64.wrap ((a : Int) + 1) = ((a + 1 : Nat) : Int) := by rw [IntKind.wrap_i64]; omega
      obtain ⟨tb, to, rfl, htb⟩ := strRow_some HR.out (by omega)
      rename World => wa
      go_wp2
      go_loopw [7] (fun vb wr => ∃ b : Nat, a + 1 ≤ b ∧ b ≤ l.length ∧ vb = .int .i64 b ∧ (∀ y, y < b → ¬ Cl l a y) ∧ Below w.heap.size w wr) (fun vb _ => l.length - (intOf vb).toNat)
      case atStart => exact ⟨a + 1, by omega, by omega, by first | rfl | simp [hw] | go_num, fun y h hc => by have := hc.1; omega, HB.out⟩
      case round =>
        obtain ⟨b, hb1, hb2, rfl, hin, hb⟩ := hrel
        have HIN := Lib.hid hin
        have HB3 := Lib.hid hb
        by_cases hbl : b < l.length
        · have ca := strRow_cell (HR.out.below hb) a hal
          have cb := strRow_cell (HR.out.below hb) b hbl
          have hza := HSZ.out a
          have hzb := HSZ.out b
          have HCE := Lib.hid (fun (W : World) (hB : Below wr.heap.size wr W) => (show W.cell? ⟨tb, to + a, none⟩ = some (.string (txt l a)) ∧ W.cell? ⟨tb, to + b, none⟩ = some (.string (txt l b)) from ⟨(hB.cell (p := ⟨tb, to + a, none⟩) (Nat.lt_of_lt_of_le htb hb.size)).trans ca, (hB.cell (p := ⟨tb, to + b, none⟩) (Nat.lt_of_lt_of_le htb hb.size)).trans cb⟩))
          have HS1 := Lib.hid (fun W => refsum_any W (txt l a) (by omega))
          have HS2 := Lib.hid (fun W => refsum_any W (txt l b) (by omega))
          have HNX := Lib.hid (show ¬ Cl l a b → ∀ y, y < b + 1 → ¬ Cl l a y from fun h1 y hy => by
            by_cases e : y = b
            · rw [e]; exact h1
            · exact HIN.out y (by omega))
          have HYES := Lib.hid (show Cl l a b → fd = true ∧ lo = a ∧ hi = b from fun h1 => best_is HBE.out hbl h1 (fun x y hy hc => by
            rintro (h | ⟨rfl, h⟩)
            · exact HNO.out x y h hy hc
            · exact HIN.out y h hc))
          clear hin hb hza hzb
          by_cases hxy : txt l a = txt l b
          · have HN := Lib.hid (HNX.out (fun h => h.2.1 hxy))
            clear HNX HYES HS1 HS2
            rw [hxy] at ca
            generalize txt l b = Y at *
            generalize txt l a = X at *
            clear hxy
            go_wp2
            go_quiet (fail)
            go_wp2
            go_roundw
            case rel => exact ⟨b + 1, by omega, by omega, by go_num, HN.out, HB3.out.trans (((Same.refl _).drewN _).below _)⟩
            case measure => simp [intOf]; omega
          · have hn := beqF' hxy
            have k1 := strRow_cell HR.out a hal
            have k2 := strRow_cell HR.out b hbl
            have hzA : (txt l a).size ≤ 9000000 := by have := HSZ.out a; omega
            have hzB : (txt l b).size ≤ 9000000 := by have := HSZ.out b; omega
            have HRS := Lib.hid (fun (X : ByteArray) (hX : X.size ≤ 9000000) (Wq : World) (hWq : Below w.heap.size w Wq) => (refsum_any Wq X (by omega)).mono (fun e w' (h : e = .returned (.string (shaB X)) ∧ Below Wq.heap.size Wq w') => (show e = .returned (.string (shaB X)) ∧ Below w.heap.size w w' from ⟨h.1, hWq.trans (h.2.mono hWq.size)⟩)))
            have bdr : Below w.heap.size w wr.drew := HB3.out.drew
            have ha0 : (0 : Int) ≤ (a : Int) := by omega
            have ha1 : (a : Int) < (l.length : Int) := by omega
            have hb0 : (0 : Int) ≤ (b : Int) := by omega
            have hb4 : (b : Int) < (l.length : Int) := by omega
            have HXY := Lib.hid hxy
            have HCLD := Lib.hid (show shaB (txt l a) = shaB (txt l b) → Cl l a b from fun e => ⟨by omega, hxy, e⟩)
            have HNCL := Lib.hid (show shaB (txt l a) ≠ shaB (txt l b) → ¬ Cl l a b from fun e h => e h.2.2)
            generalize txt l a = XA at *
            generalize txt l b = XB at *
            clear HS1 HS2 HCE hxy
            go_wp2
            go_region_held3 (fun w' => w'.cell? ⟨tb, to + a, none⟩ = some (.string XA) ∧ w'.cell? ⟨tb, to + b, none⟩ = some (.string XB) ∧ Below w.heap.size w w')
              (first | exact ⟨(b7.cell (p := ⟨tb, to + a, none⟩) htb).trans k1, (b7.cell (p := ⟨tb, to + b, none⟩) htb).trans k2, b7⟩ | exact (b7.cell (p := ⟨tb, to + a, none⟩) htb).trans k1 | exact (b7.cell (p := ⟨tb, to + b, none⟩) htb).trans k2 | exact b7 | exact ⟨ca, cb, bdr⟩ | exact bdr | go_keep)
              ((go_at_call 8; refine (HRS.out _ (by assumption) _ (by first | exact b7 | exact bdr)).mono ?_; rintro e w7 ⟨rfl, b7⟩))
            clear HRS
            generalize hDA : shaB XA = DA at *
            generalize hDB : shaB XB = DB at *
            clear hDA hDB
            by_cases hs : DA = DB
            · obtain ⟨e1, e2, e3⟩ := HYES.out (HCLD.out hs)
              subst hs e1 e2 e3
              rw [show (DA.toList == DA.toList) = true by simp]
              have HA7 := Lib.hid (HAW.out _ b7)
              have C7 := Lib.hid b7
              clear b7 k1 k2 ca cb
              go_wp2_with (go_at_call 6; refine HA7.out.mono ?_; rintro e w8 ⟨rfl, b8⟩)
              go_ret
              exact ⟨rfl, C7.out.trans (b8.mono C7.out.size)⟩
            · rw [beqF' hs]
              have B7 := Lib.hid b7
              have HN := Lib.hid (HNX.out (HNCL.out hs))
              clear hs b7 k1 k2 ca cb
              go_wp2
              go_roundw
              case rel => exact ⟨b + 1, by omega, by omega, by go_num, HN.out, B7.out⟩
              case measure => simp [intOf]; omega
        · obtain rfl : b = l.length := by omega
          have HN := Lib.hid (show ∀ x y, x < a + 1 → y < l.length → ¬ Cl l x y from fun x y hx hy => by
            by_cases e : x = a
            · rw [e]; exact HIN.out y hy
            · exact HNO.out x y (by omega) hy)
          clear hin hb
          go_wp2
          go_roundw
          case rel => exact ⟨a + 1, by omega, by go_num, HN.out, HB3.out⟩
          case measure => simp [intOf]; omega
    · obtain rfl : a = l.length := by omega
      obtain ⟨e1, e2, e3⟩ := best_none HBE.out (fun x y hy hc => HNO.out x y (by have := hc.1; omega) hy hc)
      subst e1 e2 e3
      have HA := Lib.hid (HAW.out _ HB.out)
      go_wp2_with (go_at_call 6; refine HA.out.mono ?_; rintro e w3 ⟨rfl, b3⟩)
      go_ret
      exact ⟨rfl, HB.out.trans (b3.mono HB.out.size)⟩

theorem own : ownKnob Tryd.prog.godebug = none := by kernel_rfl
theorem laidOut : laidOutB Tryd.prog = true := by kernel_rfl

set_option maxRecDepth 100000 in
theorem contract (H : Type) (enc : TypeId × Value → H) (W : World) (base : Nat) (args : Array Value) (ds gs : List (DataW H)) (before : List MemPlace)
    (hval : ∀ (j : Nat) t v, Tryd.f3.params[j]? = some t → args[j]? = some v → Value.okWide Tryd.prog W .any base t v)
    (hW : DataW.Whole enc Tryd.prog Tryd.f3.params.toList Rows.shaClashesSpec.vars false W args.toList ds gs before) (hL : laidMetH Tryd.prog Rows.shaClashesRow.laid W) :
    Calls Tryd.prog 3 args W fun e W' => ∃ v, e = .returned v ∧ Rows.shaClashesSpec.post enc Tryd.prog Tryd.f3 false true false false W args v W' := by
  have hW' := hW
  obtain ⟨p, q, hA0, hV, rfl, hfz, hnd⟩ := hW
  have hA : DataW.TrodAll enc Tryd.prog W 0 (fun _ => true) true Tryd.f3.params.toList args.toList ds p := hA0
  rw [Tryd.params3] at hA hval
  obtain ⟨v0, vs0, d0, ds0, p0, q0, hargs, rfl, rfl, h0, r0⟩ := trodAll_cons hA
  obtain ⟨rfl, rfl, rfl⟩ := trodAll_nil r0
  obtain rfl : args = #[v0] := by cases args; simp_all
  obtain ⟨rfl, rfl⟩ := trodVars_none hV
  obtain ⟨x0, len0, cap0, rfl⟩ := okWide_slice Tryd.underlying22 (hval 0 22 v0 rfl rfl)
  have k0 := h0
  have lt0 : ∀ x ∈ p0, x.block < W.heap.size := by obtain ⟨m, hm⟩ := k0; exact DataW.trod_lt m _ _ _ hm
  obtain ⟨ss0, rfl, i0, m0⟩ : ∃ ss : List ByteArray, len0 = ss.length ∧ StrRow W x0 ss ∧ ss.length ≤ maxLen ∧ ∀ s ∈ ss, s.size ≤ maxLen := by
    obtain ⟨fuel, hf⟩ := h0
    rcases open_strings Tryd.underlying22 Tryd.underlying9 (by kernel_rfl) hf with ⟨hcs, _⟩ | ⟨x, l, c, ss, hcs, _, hl, hm, hz, _, hcell, hws⟩
    · simp [Value.cells] at hcs
      obtain ⟨rfl, rfl, rfl⟩ := hcs
      exact ⟨[], rfl, .inl rfl, Nat.zero_le _, fun s hs => by cases hs⟩
    · simp [Value.cells] at hcs
      obtain ⟨rfl, rfl, rfl⟩ := hcs
      have hz2 : ss.length = cap0 := hz.trans (if_pos rfl)
      refine ⟨ss.take len0, by simp; omega, ?_, by simp; omega, fun s hs => hws s (List.mem_of_mem_take hs)⟩
      by_cases hz0 : len0 = 0
      · exact .inl (by rw [hz0, List.take_zero])
      obtain ⟨b, off, spot⟩ := x
      have hspot : spot = none := by simpa [Addr.add] using World.cell?_spot (hcell 0 (by omega))
      subst hspot
      refine .inr ⟨b, off, rfl, ?_, fun i hi => ?_⟩
      · have hc := hcell 0 (by omega)
        rcases Nat.lt_or_ge b W.heap.size with h1 | h1
        · exact h1
        · simp [World.cell?, Addr.add, Array.getElem?_eq_none h1] at hc
      · have hi' : i < len0 := by simp at hi; omega
        have hc := hcell i (by omega)
        rw [add_plain] at hc
        rw [hc]
        simp [List.getD, hi']
  clear hA0
  refine (walk x0 cap0 ss0 W i0 m0 (tabs_of_laid hL)).mono fun e W' ⟨he, bel⟩ => ?_
  subst he
  exact ⟨_, rfl, _, _, _, [], _, [], hW', trodAll_mk1 (shut_bool Tryd.underlying4 _), (trodAll_cons_mk (Below.trod laidOut (by kernel_rfl) (of_decide_eq_true (by kernel_rfl)) k0 bel lt0) trodAll_mk0), rfl, bel.frame _, fun h => by cases h⟩

theorem laid_met (os : Os) : laidMet Tryd.prog Rows.shaClashesRow.laid (({ World.holding Tryd.prog os ⟨#[], #[], []⟩ with heap := ((World.holding Tryd.prog os ⟨#[], #[], []⟩).heap.modify 0 fun | .cells _ t frozen => .cells #[.int .u32 1779033703, .int .u32 3144134277, .int .u32 1013904242, .int .u32 2773480762, .int .u32 1359893119, .int .u32 2600822924, .int .u32 528734635, .int .u32 1541459225] t frozen | o => o).modify 1 fun | .cells _ t frozen => .cells #[.int .u32 1116352408, .int .u32 1899447441, .int .u32 3049323471, .int .u32 3921009573, .int .u32 961987163, .int .u32 1508970993, .int .u32 2453635748, .int .u32 2870763221, .int .u32 3624381080, .int .u32 310598401, .int .u32 607225278, .int .u32 1426881987, .int .u32 1925078388, .int .u32 2162078206, .int .u32 2614888103, .int .u32 3248222580, .int .u32 3835390401, .int .u32 4022224774, .int .u32 264347078, .int .u32 604807628, .int .u32 770255983, .int .u32 1249150122, .int .u32 1555081692, .int .u32 1996064986, .int .u32 2554220882, .int .u32 2821834349, .int .u32 2952996808, .int .u32 3210313671, .int .u32 3336571891, .int .u32 3584528711, .int .u32 113926993, .int .u32 338241895, .int .u32 666307205, .int .u32 773529912, .int .u32 1294757372, .int .u32 1396182291, .int .u32 1695183700, .int .u32 1986661051, .int .u32 2177026350, .int .u32 2456956037, .int .u32 2730485921, .int .u32 2820302411, .int .u32 3259730800, .int .u32 3345764771, .int .u32 3516065817, .int .u32 3600352804, .int .u32 4094571909, .int .u32 275423344, .int .u32 430227734, .int .u32 506948616, .int .u32 659060556, .int .u32 883997877, .int .u32 958139571, .int .u32 1322822218, .int .u32 1537002063, .int .u32 1747873779, .int .u32 1955562222, .int .u32 2024104815, .int .u32 2227730452, .int .u32 2361852424, .int .u32 2428436474, .int .u32 2756734187, .int .u32 3204031479, .int .u32 3329325298] t frozen | o => o } : World).forCall (fun _ _ => 0) ⟨#[], #[.slice none 0 0], []⟩).memory :=
  laidMet_of_run' 8 (by kernel_rfl) (by kernel_rfl)
theorem reads (os : Os) {H : Type} (enc : TypeId × Value → H) : ∃ places, DataW.whole enc Tryd.prog (({ World.holding Tryd.prog os ⟨#[], #[], []⟩ with heap := ((World.holding Tryd.prog os ⟨#[], #[], []⟩).heap.modify 0 fun | .cells _ t frozen => .cells #[.int .u32 1779033703, .int .u32 3144134277, .int .u32 1013904242, .int .u32 2773480762, .int .u32 1359893119, .int .u32 2600822924, .int .u32 528734635, .int .u32 1541459225] t frozen | o => o).modify 1 fun | .cells _ t frozen => .cells #[.int .u32 1116352408, .int .u32 1899447441, .int .u32 3049323471, .int .u32 3921009573, .int .u32 961987163, .int .u32 1508970993, .int .u32 2453635748, .int .u32 2870763221, .int .u32 3624381080, .int .u32 310598401, .int .u32 607225278, .int .u32 1426881987, .int .u32 1925078388, .int .u32 2162078206, .int .u32 2614888103, .int .u32 3248222580, .int .u32 3835390401, .int .u32 4022224774, .int .u32 264347078, .int .u32 604807628, .int .u32 770255983, .int .u32 1249150122, .int .u32 1555081692, .int .u32 1996064986, .int .u32 2554220882, .int .u32 2821834349, .int .u32 2952996808, .int .u32 3210313671, .int .u32 3336571891, .int .u32 3584528711, .int .u32 113926993, .int .u32 338241895, .int .u32 666307205, .int .u32 773529912, .int .u32 1294757372, .int .u32 1396182291, .int .u32 1695183700, .int .u32 1986661051, .int .u32 2177026350, .int .u32 2456956037, .int .u32 2730485921, .int .u32 2820302411, .int .u32 3259730800, .int .u32 3345764771, .int .u32 3516065817, .int .u32 3600352804, .int .u32 4094571909, .int .u32 275423344, .int .u32 430227734, .int .u32 506948616, .int .u32 659060556, .int .u32 883997877, .int .u32 958139571, .int .u32 1322822218, .int .u32 1537002063, .int .u32 1747873779, .int .u32 1955562222, .int .u32 2024104815, .int .u32 2227730452, .int .u32 2361852424, .int .u32 2428436474, .int .u32 2756734187, .int .u32 3204031479, .int .u32 3329325298] t frozen | o => o } : World).forCall (fun _ _ => 0) ⟨#[], #[.slice none 0 0], []⟩).memory Tryd.f3.params.toList Rows.shaClashesSpec.vars false (#[.slice none 0 0] : Array Value).toList 8 = some ([.nil], [], places) :=
  ⟨[], by kernel_rfl⟩

set_option maxRecDepth 100000 in
theorem lifted (os : Os) (started : os.Started) (H : Type) (enc : TypeId × Value → H) (F : Stop.Interp) :
    ReturnsInHanded {} Tryd.checked os 3 .any ((OpenSpec.ofChange Rows.shaClashesSpec).preRow enc Tryd.prog Tryd.f3 Rows.shaClashesRow.domain false Rows.shaClashesRow.laid) (((OpenSpec.ofChange Rows.shaClashesSpec).at F).post enc Tryd.prog Tryd.f3 false true false false) := by
  obtain ⟨places, hx⟩ := reads os enc
  refine returnsInHanded_of_row (C := Tryd.checked) (s := OpenSpec.ofChange Rows.shaClashesSpec) own started (by kernel_rfl) Tryd.func3
    (witness_row_at (enc := enc) (C := Tryd.checked) false ({ World.holding Tryd.prog os ⟨#[], #[], []⟩ with heap := ((World.holding Tryd.prog os ⟨#[], #[], []⟩).heap.modify 0 fun | .cells _ t frozen => .cells #[.int .u32 1779033703, .int .u32 3144134277, .int .u32 1013904242, .int .u32 2773480762, .int .u32 1359893119, .int .u32 2600822924, .int .u32 528734635, .int .u32 1541459225] t frozen | o => o).modify 1 fun | .cells _ t frozen => .cells #[.int .u32 1116352408, .int .u32 1899447441, .int .u32 3049323471, .int .u32 3921009573, .int .u32 961987163, .int .u32 1508970993, .int .u32 2453635748, .int .u32 2870763221, .int .u32 3624381080, .int .u32 310598401, .int .u32 607225278, .int .u32 1426881987, .int .u32 1925078388, .int .u32 2162078206, .int .u32 2614888103, .int .u32 3248222580, .int .u32 3835390401, .int .u32 4022224774, .int .u32 264347078, .int .u32 604807628, .int .u32 770255983, .int .u32 1249150122, .int .u32 1555081692, .int .u32 1996064986, .int .u32 2554220882, .int .u32 2821834349, .int .u32 2952996808, .int .u32 3210313671, .int .u32 3336571891, .int .u32 3584528711, .int .u32 113926993, .int .u32 338241895, .int .u32 666307205, .int .u32 773529912, .int .u32 1294757372, .int .u32 1396182291, .int .u32 1695183700, .int .u32 1986661051, .int .u32 2177026350, .int .u32 2456956037, .int .u32 2730485921, .int .u32 2820302411, .int .u32 3259730800, .int .u32 3345764771, .int .u32 3516065817, .int .u32 3600352804, .int .u32 4094571909, .int .u32 275423344, .int .u32 430227734, .int .u32 506948616, .int .u32 659060556, .int .u32 883997877, .int .u32 958139571, .int .u32 1322822218, .int .u32 1537002063, .int .u32 1747873779, .int .u32 1955562222, .int .u32 2024104815, .int .u32 2227730452, .int .u32 2361852424, .int .u32 2428436474, .int .u32 2756734187, .int .u32 3204031479, .int .u32 3329325298] t frozen | o => o } : World) #[.slice none 0 0] rfl (by kernel_rfl) (by kernel_rfl) (by kernel_rfl)
      (OpenSpec.preRow_of_cond 8 hx (by kernel_rfl) (fun k hk => by cases hk) (by kernel_rfl) (laid_met os))) ?_
  intro W base args ds gs before hval hW _ _ _ hL _ _
  exact contract H enc W base args ds gs before hval hW hL

theorem said : Rows.ShaClashesSaid :=
  OpenClaim.holds_of_cond 3 Tryd.f3 rfl rfl rfl rfl rfl rfl rfl ⟨rfl, rfl, rfl, rfl, rfl⟩ rfl rfl rfl rfl rfl (by kernel_rfl) Tryd.func3 (by kernel_rfl)
    (of_decide_eq_true (by kernel_rfl)) (by unfold Func.isWrapper; first | (rw [if_pos (by decide +kernel)]; kernel_rfl) | (rw [if_neg (by decide +kernel)]; exact ⟨rfl, rfl⟩))
    (fun os started H enc _ F => by rw [OpenClaim.pre_eq_preRow]; exact lifted os started H enc F)

theorem plain (f : FuncId) (fn : Func) (hf : Tryd.pinned.checked.prog.funcNamed Rows.shaClashesRow.func = some f) (hfn : Tryd.pinned.checked.prog.funcs[f]? = some fn) :
    false = Tryd.pinned.checked.prog.looks [] ∧ ∀ (j : Nat) t, fn.params[j]? = some t → Tryd.pinned.checked.prog.wantsStandIn t = false := by
  obtain rfl : f = 3 := Option.some.inj ((show Tryd.prog.funcNamed Rows.shaClashesRow.func = some 3 by kernel_rfl).symm.trans hf) |>.symm
  obtain rfl : fn = Tryd.f3 := (Option.some.inj (Tryd.func3.symm.trans hfn)).symm
  refine ⟨by kernel_rfl, fun j t ht => ?_⟩
  rw [Tryd.params3] at ht
  have hm : t = 22 := by first | simpa using Array.mem_of_getElem? ht | (have h := Array.mem_of_getElem? ht; simp only [List.mem_toArray, List.mem_cons, List.not_mem_nil, or_false] at h; rcases h with rfl <;> simp)
  rcases hm with rfl
  · exact (show Tryd.prog.wantsStandIn 22 = false by kernel_rfl)

theorem card : Rows.ShaClashesCardSaid :=
  Claim7.holds_tied_plain_at .later [] _ _ _ _ said (fun _ h => by cases h) (by kernel_rfl) (fun _ h => by cases h) shaClashes_row_tie rfl ⟨rfl, rfl⟩ (by kernel_rfl) rfl plain (by kernel_rfl)

end Go.Proofs.YtanplccigmihfaaDoor.ShaClashes
namespace Go.Proofs.YtanplccigmihfaaDoor
theorem shaClashes_card : Rows.ShaClashesCardSaid := ShaClashes.card
#print axioms shaClashes_card
end Go.Proofs.YtanplccigmihfaaDoor

