/-
  P11.1: what is told is its asker's own: spoilt, the store's state stays: for every list of acts.
  The tables of the library start as its text lays them (the card ties them).
-/
import Derived.Test.YtffnkomnldgcaaaDoorSo19
import Derived.Test.YtffnkomnldgcaaaDoorSo20
import Derived.Test.YtffnkomnldgcaaaDoorSo16
import Derived.Test.YtffnkomnldgcaaaDoorCards
import Derived.Test.YtffnkomnldgcaaaDoorTie
import Derived.Lib.LaidTab
import Derived.Deep.DeepHandedRow
import Derived.Deep.RegionHeld3
import Derived.ProofKit
import Derived.OpenShut
import Derived.ShutString
import Derived.ChangeOld
import Derived.SevenTiedAt
namespace Go.Proofs.YtffnkomnldgcaaaDoor.StoreOwn
open Go.ChangeShapes Go.WideShapes Go.ChangeAt Go.RowKit Go.Pal Go.Pal.Dk Go.Pal.Fr
open Go.ChangeMaps (open_string shut_string)
set_option linter.unusedVariables false

theorem as_two {w7 : World} {s : SS} (Wq : World) (v : Vs) (hv : VsAt Wq s v) (hq : Below w7.heap.size w7 Wq) :
    Calls Tryd.prog 15 #[vsV s v] Wq fun e w' => e = .returned (vsV s v) ∧ VsAt w' s v ∧ Below w7.heap.size w7 w' ∧ Below Wq.heap.size Wq w' :=
  (as_any Wq s v).mono (fun _ _ ⟨a, b⟩ => ⟨a, hv.below b, hq.trans (b.mono hq.size), b⟩)

set_option maxHeartbeats 4000000 in
set_option maxRecDepth 100000 in
theorem walk (x : Option Addr) (cap : Nat) (l : List Sa) (w : World) (hA : SactsAt w x l) :
    Calls Tryd.prog 5 #[.slice x l.length cap] w fun e w' => e = .returned (.bool true) ∧ Below w.heap.size w w' := by
  have HG := Lib.hid (sgreat_any w x cap l hA)
  cases hg : sgreatB l
  · rw [hg] at HG
    obtain ⟨hlen, hsm⟩ := sgreat_no hg
    have HAC := Lib.hid hA
    have HSM := Lib.hid hsm
    clear hg hA hsm
    go_enter Tryd.func5, Tryd.ntmps5
    go_wp2_with fail
    refine HG.out.mono ?_
    rintro e w0 ⟨rfl, rfl⟩
    go_wp2_with fail
    refine (awake11 _).mono ?_
    rintro e w1 ⟨rfl, b1⟩
    have B1 := Lib.hid b1
    clear b1
    have HNEW := Lib.hid (new_yes w1 1048576 (by decide))
    rw [show ((1048576 : Nat) : Int) = 1048576 from rfl] at HNEW
    have HD0 := Lib.hid (new_at w1 w1.heap.size 1048576 (Nat.le_refl _) (by decide))
    rw [show ((1048576 : Nat) : Int) = 1048576 from rfl] at HD0
    go_wp2_with fail
    refine HNEW.out.mono ?_
    rintro e w2 ⟨rfl, rfl⟩
    obtain ⟨w2, hw2⟩ : ∃ W, W = w1.alloc (.cells #[.int .i64 1048576, .int .i64 0, .map none, .bool true, .bool false, .int .i64 0] 54) := ⟨_, rfl⟩
    rw [← hw2] at HD0 ⊢
    have B2 := Lib.hid (show Below w1.heap.size w1 w2 by rw [hw2]; exact (Below.refl _ _).alloc (Nat.le_refl _) _)
    clear hw2 HNEW
    go_wp2_with fail
    refine (open_new HD0.out).mono ?_
    rintro e w3 ⟨B, Lb, L3, ev3, q3, rfl, so3, o3, f3⟩
    have hd0 := HD0.out
    have bs3 := base_new HD0.out f3
    have SV0 := Lib.hid (show Sv w1 w1.heap.size B Lb w1.heap.size 0 ss0 (newD 1048576) L3 [] ev3 q3 w3 from ⟨so3, live0 _, rfl, rfl, rfl, bs3, B2.out.trans (o3.below (fun g hg => hd0.foot_base hg) B2.out.size)⟩)
    clear so3 o3 f3 hd0 bs3 HD0
    go_wp2
    go_loopw [5] (fun i wr => ∃ (k : Nat) (s : SS) (d : Dk) (L : Lay) (gs : List (List ByteArray)) (ev q : Value), k ≤ l.length ∧ i = .int .i64 (k : Int) ∧ Sv w1 w1.heap.size B Lb w1.heap.size k s d L gs ev q wr) (fun i _ => l.length - (intOf i).toNat)
    case atStart => exact ⟨0, _, _, _, _, _, _, Nat.zero_le _, rfl, SV0.out⟩
    case round =>
      obtain ⟨k, s, d, L, gs, ev, q, hk, rfl, hSv⟩ := hrel
      have HS := Lib.hid hSv
      clear hSv
      have BR := Lib.hid (B1.out.trans (HS.out.bel.mono B1.out.size))
      by_cases hlt : k < l.length
      · obtain ⟨b, off, rfl, hbl, hcl⟩ := (HAC.out.below BR.out).at_ hlt
        have hok := HAC.out.ok l[k] (List.getElem_mem hlt)
        have hsm := HSM.out l[k] (List.getElem_mem hlt)
        have hn2 := hok.n.2
        have c0 : wr.cell? ⟨b, off + k * 3, none⟩ = _ := hcl 0 (by decide)
        have c1 := hcl 1 (by decide)
        have c2 := hcl 2 (by decide)
        simp only [Sa.cells, List.getElem?_cons_zero, List.getElem?_cons_succ] at c0 c1 c2
        generalize l[k].kind = ck at *
        generalize l[k].text = ct at *
        generalize l[k].n = cn at *
        clear hcl hok
        have i1 : (k : Int) < (l.length : Int) := by omega
        have i0' : (0 : Int) ≤ (k : Int) := by omega
        have HDO2 := Lib.hid (do_so HS.out.so (HS.out.lv.ready (by omega)) ck ct cn hn2 (fun he => by
          have h1 := HS.out.lv.used
          have h2 := HS.out.room
          have h3 := rec_small' he hsm.1
          omega))
        go_wp2_with fail
        refine HDO2.out.mono ?_
        intro e w9 hA
        clear HDO2 c0 c1 c2
        have hex : ∃ (er : Int) (s2 : SS) (d2 : Dk) (L2 : Lay) (gs2 : List (List ByteArray)) (ev2 q2 : Value), e = .returned (.int .i64 er) ∧ Sv w1 w1.heap.size B Lb w1.heap.size (k + 1) s2 d2 L2 gs2 ev2 q2 w9 := by
          by_cases he : (doesR s ck ct cn).1 = 0
          · obtain ⟨d', rfl, di9, lv9, on9, ar9, rm9⟩ := act_calm hA HS.out.so HS.out.lv (by omega) HS.out.on HS.out.arm he
            obtain ⟨L', ev', q', h⟩ := HS.out.act di9 lv9 (rec_small' he hsm.1) on9 ar9 rm9
            exact ⟨_, _, _, _, _, _, _, rfl, h⟩
          · obtain ⟨rfl, b9⟩ := hA.1 he
            exact ⟨_, _, _, _, _, _, _, rfl, (HS.out.below b9).up⟩
        obtain ⟨er, s2, d2, L2, gs2, ev2, q2, rfl, hn⟩ := hex
        have HN := Lib.hid hn
        clear hA hn
        go_wp2
        go_roundw
        case rel =>
          have hp := HN.out
          exact ⟨k + 1, s2, d2, L2, gs2, ev2, q2, hlt, by go_num, hp⟩
        case measure => simp [intOf]; omega
      · obtain rfl : k = l.length := by omega
        have hsz : SzS s 1000000 := HS.out.lv.sz.up (by omega)
        have hS1 : ∀ g, SoF B Lb w1.heap.size d L ev q g → g < wr.heap.size := fun g hg => HS.out.so.lt hg
        go_wp2_with fail
        refine (state_any HS.out.so.st hsz).mono ?_
        rintro e w3 ⟨v1, v2, rfl, q1, q2, ap, b3⟩
        have HS3 := Lib.hid (HS.out.below b3)
        go_wp2_with fail
        refine (state_any HS3.out.so.st hsz).mono ?_
        rintro e w4 ⟨u1, u2, rfl, r1, r2, ap2, b4⟩
        have HS4 := Lib.hid (HS3.out.below b4)
        obtain ⟨a1, c1, rfl, n1, m1, _⟩ := q1.form
        obtain ⟨a2, c2, rfl, n2, m2, _⟩ := q2.form
        obtain ⟨ua1, uc1, rfl, un1, um1, ur1⟩ := r1.form
        obtain ⟨ua2, uc2, rfl, un2, um2, ur2⟩ := r2.form
        have hz3 := b3.size
        have hz4 := b4.size
        have HQ := Lib.hid (And.intro q1 (And.intro q2 (And.intro ap (And.intro r1 (And.intro r2 b4)))))
        have HSZ := Lib.hid (And.intro hsz (And.intro hS1 (And.intro hz3 (And.intro hz4 HS.out.base_le))))
        have HU4 := Lib.hid (show VsAt w4 s ⟨ua1, uc1, ua2, uc2⟩ from ⟨ur1, ur2, un1, un2⟩)
        clear HS HS3 hsz hS1 q1 q2 ap r1 r2 ap2 b3 b4 hz3 hz4 ur1 ur2
        obtain ⟨N0, hN0⟩ : ∃ N, N = wr.heap.size := ⟨_, rfl⟩
        rw [← hN0] at HQ HSZ
        clear hN0 BR
        go_wp2
        obtain ⟨w5, hw5⟩ : ∃ W, W = (w4.alloc (.cells #[.string s.room, .slice a1 s.events.length c1, .int .i64 (s.used : Int), .slice a2 s.queue.length c2] 43)).alloc (.cells #[.string s.room, .slice ua1 s.events.length uc1, .int .i64 (s.used : Int), .slice ua2 s.queue.length uc2] 43) := ⟨_, rfl⟩
        rw [← hw5]
        have b5 : Below w4.heap.size w4 w5 := by rw [hw5]; exact ((Below.refl _ _).alloc (Nat.le_refl _) _).alloc (by simp) _
        have x5 : Blk w5 w4.heap.size 43 [.string s.room, .slice a1 s.events.length c1, .int .i64 (s.used : Int), .slice a2 s.queue.length c2] := by rw [hw5]; exact (Blk.new w4 _ _).alloc _
        have y5 : Blk w5 (w4.heap.size + 1) 43 [.string s.room, .slice ua1 s.events.length uc1, .int .i64 (s.used : Int), .slice ua2 s.queue.length uc2] := by rw [hw5]; exact Blk.new' _ _ _ (by simp)
        clear hw5
        have hfar : ∀ g, ((Value.slice a1 s.events.length c1).ownBlock = some g ∨ (Value.slice a2 s.queue.length c2).ownBlock = some g) → N0 ≤ g ∧ g < w3.heap.size := fun g hg => by
          rcases hg with h | h
          · have := HQ.out.1.lt h; exact ⟨this.2.1, this.1⟩
          · have := HQ.out.2.1.lt h; exact ⟨this.2.1, this.1⟩
        have SP5 := Lib.hid (show Spo w5 N0 (.slice a1 s.events.length c1) (.slice a2 s.queue.length c2) s.events.length s.queue.length w5 from ⟨Off.refl _ _, ⟨_, rfl, (HQ.out.1.below HQ.out.2.2.2.2.2 (Nat.le_refl _)).below b5 (Nat.le_refl _)⟩, ⟨_, rfl, (HQ.out.2.1.below HQ.out.2.2.2.2.2 (Nat.le_refl _)).below b5 (Nat.le_refl _)⟩, HQ.out.2.2.1⟩)
        have HS5 := Lib.hid (HS4.out.below b5)
        have HU5 := Lib.hid (HU4.out.below b5)
        have HXB := Lib.hid (show ∀ W, Spo w5 N0 (.slice a1 s.events.length c1) (.slice a2 s.queue.length c2) s.events.length s.queue.length W → Blk W w4.heap.size _ _ ∧ Blk W (w4.heap.size + 1) _ _ from fun W hW =>
          ⟨(hW.off.block _ x5.lt (fun hh => by have := (hfar _ hh).2; have := HSZ.out.2.2.2.1; omega)).trans x5, (hW.off.block _ y5.lt (fun hh => by have := (hfar _ hh).2; have := HSZ.out.2.2.2.1; omega)).trans y5⟩)
        have HFIN := Lib.hid (show ∀ W, Spo w5 N0 (.slice a1 s.events.length c1) (.slice a2 s.queue.length c2) s.events.length s.queue.length W → Sv w1 w1.heap.size B Lb w1.heap.size l.length s d L gs ev q W ∧ VsAt W s ⟨ua1, uc1, ua2, uc2⟩ from fun W hW =>
          ⟨HS5.out.off hW.off (fun g hg hs => by have := (hfar g hg).1; have := HSZ.out.2.1 g hs; omega) (fun g hg => by have := (hfar g hg).1; have := HSZ.out.2.2.2.2; omega),
            HU5.out.keep (fun g hl hg => hW.off.block g hl (fun hh => by have := (hfar g hh).2; have := (HQ.out.2.2.2.1.lt hg).2.1; omega)) (fun g hl hg => hW.off.block g hl (fun hh => by have := (hfar g hh).2; have := (HQ.out.2.2.2.2.1.lt hg).2.1; omega))⟩)
        obtain ⟨X, hX⟩ : ∃ X, X = w4.heap.size := ⟨_, rfl⟩
        rw [← hX] at HXB ⊢
        have hz1 := HSZ.out.1.el
        have hz2 := HSZ.out.1.ql
        have HZ := Lib.hid HSZ.out.1
        clear hX x5 y5 b5 hfar HS4 HU4 HS5 HU5 HQ HSZ
        go_loopw [8] (fun i W => ∃ (k : Nat), k ≤ s.events.length ∧ i = .int .i64 (k : Int) ∧ Spo w5 N0 (.slice a1 s.events.length c1) (.slice a2 s.queue.length c2) s.events.length s.queue.length W) (fun i _ => s.events.length - (intOf i).toNat)
        case atStart => exact ⟨0, Nat.zero_le _, rfl, SP5.out⟩
        case round =>
          obtain ⟨k, hk, rfl, hSp⟩ := hrel
          have hXX := (HXB.out _ hSp).1
          have e1 : wr.cell? ⟨X, 1, none⟩ = some (.slice a1 s.events.length c1) := hXX.cell 1
          clear hXX
          by_cases hlt : k < s.events.length
          · obtain ⟨g, off, y, rfl, p, fz, hn⟩ := hSp.at1 hlt ⟨#[115, 112, 111, 105, 108, 116]⟩
            have HN := Lib.hid hn
            have i1 : (k : Int) < (s.events.length : Int) := by omega
            have i0' : (0 : Int) ≤ (k : Int) := by omega
            clear hSp hn
            go_wp2
            go_roundw
            case rel => exact ⟨k + 1, hlt, by go_num, HN.out⟩
            case measure => simp [intOf]; omega
          · obtain rfl : k = s.events.length := by omega
            have SP6 := Lib.hid hSp
            clear hSp
            go_wp2
            go_loopw [9] (fun i W => ∃ (k : Nat), k ≤ s.queue.length ∧ i = .int .i64 (k : Int) ∧ Spo w5 N0 (.slice a1 s.events.length c1) (.slice a2 s.queue.length c2) s.events.length s.queue.length W) (fun i _ => s.queue.length - (intOf i).toNat)
            case atStart => exact ⟨0, Nat.zero_le _, rfl, SP6.out⟩
            case round =>
              obtain ⟨k, hk, rfl, hSp⟩ := hrel
              have hXX := (HXB.out _ hSp).1
              have e3 : wr.cell? ⟨X, 3, none⟩ = some (.slice a2 s.queue.length c2) := hXX.cell 3
              clear hXX
              by_cases hlt : k < s.queue.length
              · obtain ⟨g, off, y, rfl, p, fz, hn⟩ := hSp.at2 hlt ⟨#[115, 112, 111, 105, 108, 116]⟩
                have HN := Lib.hid hn
                have i1 : (k : Int) < (s.queue.length : Int) := by omega
                have i0' : (0 : Int) ≤ (k : Int) := by omega
                clear hSp hn
                go_wp2
                go_roundw
                case rel => exact ⟨k + 1, hlt, by go_num, HN.out⟩
                case measure => simp [intOf]; omega
              · obtain rfl : k = s.queue.length := by omega
                have hYY := (HXB.out _ hSp).2
                obtain ⟨hS9, hU9⟩ := HFIN.out _ hSp
                obtain ⟨w11, hw11⟩ : ∃ W, W = wr := ⟨_, rfl⟩
                rw [← hw11] at hYY hS9 hU9 ⊢
                have B11 := Lib.hid (B1.out.trans (hS9.bel.mono B1.out.size))
                have hRl1 : X + 1 < w11.heap.size := hYY.lt
                have k0 : w11.cell? ⟨X + 1, 0, none⟩ = some (.string s.room) := hYY.cell 0
                have k1 : w11.cell? ⟨X + 1, 1, none⟩ = some (.slice ua1 s.events.length uc1) := hYY.cell 1
                have k2 : w11.cell? ⟨X + 1, 2, none⟩ = some (.int .i64 (s.used : Int)) := hYY.cell 2
                have k3 : w11.cell? ⟨X + 1, 3, none⟩ = some (.slice ua2 s.queue.length uc2) := hYY.cell 3
                have kk0 : w11.drew.cell? ⟨X + 1, 0, none⟩ = some (.string s.room) := k0
                have kk1 : w11.drew.cell? ⟨X + 1, 1, none⟩ = some (.slice ua1 s.events.length uc1) := k1
                have kk2 : w11.drew.cell? ⟨X + 1, 2, none⟩ = some (.int .i64 (s.used : Int)) := k2
                have kk3 : w11.drew.cell? ⟨X + 1, 3, none⟩ = some (.slice ua2 s.queue.length uc2) := k3
                have bdr : Below w11.heap.size w11 w11.drew := (Below.refl _ _).drew
                have HSTA := Lib.hid (state_at hS9.so.st HZ.out)
                have HASA := Lib.hid (fun Wq v hv hq => as_two (w7 := w11) (s := s) Wq v hv hq)
                have HASB := Lib.hid (fun Wq hq => as_two (w7 := w11) (s := s) Wq ⟨ua1, uc1, ua2, uc2⟩ (hU9.below hq) hq)
                have HSMA := Lib.hid (fun Wq v hv hq => same_at (w7 := w11) HZ.out HZ.out hU9 Wq v hv hq)
                rw [sameB_self] at HSMA
                rw [← hw11] at e3
                clear hYY hS9 hU9 hSp hw11 HXB HFIN SP5 SP6 hz1 hz2
                go_wp2
                clear e3
                unfold vsV at HASB HSMA
                go_region_held3 (fun w' => w'.cell? ⟨X + 1, 0, none⟩ = some (.string s.room) ∧ w'.cell? ⟨X + 1, 1, none⟩ = some (.slice ua1 s.events.length uc1) ∧ w'.cell? ⟨X + 1, 2, none⟩ = some (.int .i64 (s.used : Int)) ∧ w'.cell? ⟨X + 1, 3, none⟩ = some (.slice ua2 s.queue.length uc2))
                  (first | with_reducible exact ⟨(b15.cell (p := ⟨X + 1, 0, none⟩) hRl1).trans k0, (b15.cell (p := ⟨X + 1, 1, none⟩) hRl1).trans k1, (b15.cell (p := ⟨X + 1, 2, none⟩) hRl1).trans k2, (b15.cell (p := ⟨X + 1, 3, none⟩) hRl1).trans k3⟩ | with_reducible exact (b15.cell (p := ⟨X + 1, 0, none⟩) hRl1).trans k0 | with_reducible exact (b15.cell (p := ⟨X + 1, 1, none⟩) hRl1).trans k1 | with_reducible exact (b15.cell (p := ⟨X + 1, 2, none⟩) hRl1).trans k2 | with_reducible exact (b15.cell (p := ⟨X + 1, 3, none⟩) hRl1).trans k3 | with_reducible exact ⟨(b14.cell (p := ⟨X + 1, 0, none⟩) hRl1).trans k0, (b14.cell (p := ⟨X + 1, 1, none⟩) hRl1).trans k1, (b14.cell (p := ⟨X + 1, 2, none⟩) hRl1).trans k2, (b14.cell (p := ⟨X + 1, 3, none⟩) hRl1).trans k3⟩ | with_reducible exact (b14.cell (p := ⟨X + 1, 0, none⟩) hRl1).trans k0 | with_reducible exact (b14.cell (p := ⟨X + 1, 1, none⟩) hRl1).trans k1 | with_reducible exact (b14.cell (p := ⟨X + 1, 2, none⟩) hRl1).trans k2 | with_reducible exact (b14.cell (p := ⟨X + 1, 3, none⟩) hRl1).trans k3 | with_reducible exact ⟨(b13.cell (p := ⟨X + 1, 0, none⟩) hRl1).trans k0, (b13.cell (p := ⟨X + 1, 1, none⟩) hRl1).trans k1, (b13.cell (p := ⟨X + 1, 2, none⟩) hRl1).trans k2, (b13.cell (p := ⟨X + 1, 3, none⟩) hRl1).trans k3⟩ | with_reducible exact (b13.cell (p := ⟨X + 1, 0, none⟩) hRl1).trans k0 | with_reducible exact (b13.cell (p := ⟨X + 1, 1, none⟩) hRl1).trans k1 | with_reducible exact (b13.cell (p := ⟨X + 1, 2, none⟩) hRl1).trans k2 | with_reducible exact (b13.cell (p := ⟨X + 1, 3, none⟩) hRl1).trans k3 | with_reducible exact ⟨(b12.cell (p := ⟨X + 1, 0, none⟩) hRl1).trans k0, (b12.cell (p := ⟨X + 1, 1, none⟩) hRl1).trans k1, (b12.cell (p := ⟨X + 1, 2, none⟩) hRl1).trans k2, (b12.cell (p := ⟨X + 1, 3, none⟩) hRl1).trans k3⟩ | with_reducible exact (b12.cell (p := ⟨X + 1, 0, none⟩) hRl1).trans k0 | with_reducible exact (b12.cell (p := ⟨X + 1, 1, none⟩) hRl1).trans k1 | with_reducible exact (b12.cell (p := ⟨X + 1, 2, none⟩) hRl1).trans k2 | with_reducible exact (b12.cell (p := ⟨X + 1, 3, none⟩) hRl1).trans k3 | exact ⟨kk0, kk1, kk2, kk3⟩ | with_reducible exact kk0 | with_reducible exact kk1 | with_reducible exact kk2 | with_reducible exact kk3 | fail)
                  (first
                    | (go_at_call 16; refine (HSTA.out _ (by first | exact bdr)).mono ?_; rintro e w12 ⟨v12, rfl, vs12, b12⟩; unfold vsV)
                    | (go_at_call 15; refine (HASB.out _ b13).mono ?_; rintro e w14 ⟨rfl, vs14, b14, b14'⟩)
                    | (go_at_call 15; refine (HASA.out _ v12 vs12 b12).mono ?_; rintro e w13 ⟨rfl, vs13, b13, b13'⟩; unfold vsV)
                    | (go_at_call 14; refine (HSMA.out _ v12 (vs13.below b14') b14).mono ?_; rintro e w15 ⟨rfl, b15⟩))
                have B15 := Lib.hid (B11.out.trans (b15.mono B11.out.size))
                clear vs12 vs13 vs14 b12 b13 b14 b13' b14' b15 k0 k1 k2 k3 kk0 kk1 kk2 kk3 bdr HSTA HASA HASB HSMA
                go_wp2
                go_ret
                exact ⟨rfl, B15.out⟩
  · rw [hg] at HG
    clear hg hA
    go_enter Tryd.func5, Tryd.ntmps5
    go_wp2_with fail
    refine HG.out.mono ?_
    rintro e w0 ⟨rfl, rfl⟩
    go_wp2_with fail
    refine (awake11 _).mono ?_
    rintro e w1 ⟨rfl, b1⟩
    have B1 := Lib.hid b1
    clear b1
    go_wp2
    go_ret
    exact ⟨rfl, B1.out⟩

theorem own : ownKnob Tryd.prog.godebug = none := by kernel_rfl
theorem laidOut : laidOutB Tryd.prog = true := by kernel_rfl

set_option maxRecDepth 100000 in
theorem contract (H : Type) (enc : TypeId × Value → H) (W : World) (base : Nat) (args : Array Value) (ds gs : List (DataW H)) (before : List MemPlace)
    (hval : ∀ (j : Nat) t v, Tryd.f5.params[j]? = some t → args[j]? = some v → Value.okWide Tryd.prog W .any base t v)
    (hW : DataW.Whole enc Tryd.prog Tryd.f5.params.toList Rows.storeOwnSpec.vars false W args.toList ds gs before) (hL : laidMetH Tryd.prog Rows.storeOwnRow.laid W) :
    Calls Tryd.prog 5 args W fun e W' => ∃ v, e = .returned v ∧ Rows.storeOwnSpec.post enc Tryd.prog Tryd.f5 false true false false W args v W' := by
  have hW' := hW
  obtain ⟨p, q, hA0, hV, rfl, hfz, hnd⟩ := hW
  have hA : DataW.TrodAll enc Tryd.prog W 0 (fun _ => true) true Tryd.f5.params.toList args.toList ds p := hA0
  rw [Tryd.params5] at hA hval
  obtain ⟨v0, vs0, d0, ds0, p0, q0, hargs, rfl, rfl, h0, r0⟩ := trodAll_cons hA
  obtain ⟨rfl, rfl, rfl⟩ := trodAll_nil r0
  obtain rfl : args = #[v0] := by cases args; simp_all
  obtain ⟨rfl, rfl⟩ := trodVars_none hV
  obtain ⟨x0, len0, cap0, rfl⟩ := okWide_slice Tryd.underlying22 (hval 0 22 v0 rfl rfl)
  have k0 := h0
  have lt0 : ∀ x ∈ p0, x.block < W.heap.size := by obtain ⟨m, hm⟩ := k0; exact DataW.trod_lt m _ _ _ hm
  obtain ⟨l0, rfl, i0⟩ : ∃ l : List Sa, len0 = l.length ∧ SactsAt W x0 l := by
    obtain ⟨fuel, hf⟩ := h0
    exact sacts_of (show DataW.trod enc Tryd.prog W 0 (fun _ => true) true fuel 22 [.slice x0 len0 cap0] = some _ from hf)
  clear hA0
  refine (walk x0 cap0 l0 W i0).mono fun e W' ⟨he, bel⟩ => ?_
  subst he
  exact ⟨_, rfl, _, _, _, [], _, [], hW', trodAll_mk1 (shut_bool Tryd.underlying4 _), (trodAll_cons_mk (Below.trod laidOut (by kernel_rfl) (of_decide_eq_true (by kernel_rfl)) k0 bel lt0) trodAll_mk0), rfl, bel.frame _, fun h => by cases h⟩

theorem laid_met (os : Os) : laidMet Tryd.prog Rows.storeOwnRow.laid (({ World.holding Tryd.prog os ⟨#[], #[], []⟩ with heap := (((World.holding Tryd.prog os ⟨#[], #[], []⟩).heap.modify 0 fun | .cells _ t frozen => .cells #[.int .u64 1, .int .u64 10, .int .u64 100, .int .u64 1000, .int .u64 10000, .int .u64 100000, .int .u64 1000000, .int .u64 10000000, .int .u64 100000000, .int .u64 1000000000, .int .u64 10000000000, .int .u64 100000000000, .int .u64 1000000000000, .int .u64 10000000000000, .int .u64 100000000000000, .int .u64 1000000000000000, .int .u64 10000000000000000, .int .u64 100000000000000000, .int .u64 1000000000000000000, .int .u64 10000000000000000000] t frozen | o => o).modify 1 fun | .cells _ t frozen => .cells #[.int .u8 0, .int .u8 1, .int .u8 28, .int .u8 2, .int .u8 29, .int .u8 14, .int .u8 24, .int .u8 3, .int .u8 30, .int .u8 22, .int .u8 20, .int .u8 15, .int .u8 25, .int .u8 17, .int .u8 4, .int .u8 8, .int .u8 31, .int .u8 27, .int .u8 13, .int .u8 23, .int .u8 21, .int .u8 19, .int .u8 16, .int .u8 7, .int .u8 26, .int .u8 12, .int .u8 18, .int .u8 6, .int .u8 11, .int .u8 5, .int .u8 10, .int .u8 9] t frozen | o => o).modify 2 fun | .cells _ t frozen => .cells #[.int .u8 0, .int .u8 1, .int .u8 56, .int .u8 2, .int .u8 57, .int .u8 49, .int .u8 28, .int .u8 3, .int .u8 61, .int .u8 58, .int .u8 42, .int .u8 50, .int .u8 38, .int .u8 29, .int .u8 17, .int .u8 4, .int .u8 62, .int .u8 47, .int .u8 59, .int .u8 36, .int .u8 45, .int .u8 43, .int .u8 51, .int .u8 22, .int .u8 53, .int .u8 39, .int .u8 33, .int .u8 30, .int .u8 24, .int .u8 18, .int .u8 12, .int .u8 5, .int .u8 63, .int .u8 55, .int .u8 48, .int .u8 27, .int .u8 60, .int .u8 41, .int .u8 37, .int .u8 16, .int .u8 46, .int .u8 35, .int .u8 44, .int .u8 21, .int .u8 52, .int .u8 32, .int .u8 23, .int .u8 11, .int .u8 54, .int .u8 26, .int .u8 40, .int .u8 15, .int .u8 34, .int .u8 20, .int .u8 31, .int .u8 10, .int .u8 25, .int .u8 14, .int .u8 19, .int .u8 9, .int .u8 13, .int .u8 8, .int .u8 7, .int .u8 6] t frozen | o => o } : World).forCall (fun _ _ => 0) ⟨#[], #[.slice none 0 0], []⟩).memory :=
  laidMet_of_run' 8 (by kernel_rfl) (by kernel_rfl)
theorem reads (os : Os) {H : Type} (enc : TypeId × Value → H) : ∃ places, DataW.whole enc Tryd.prog (({ World.holding Tryd.prog os ⟨#[], #[], []⟩ with heap := (((World.holding Tryd.prog os ⟨#[], #[], []⟩).heap.modify 0 fun | .cells _ t frozen => .cells #[.int .u64 1, .int .u64 10, .int .u64 100, .int .u64 1000, .int .u64 10000, .int .u64 100000, .int .u64 1000000, .int .u64 10000000, .int .u64 100000000, .int .u64 1000000000, .int .u64 10000000000, .int .u64 100000000000, .int .u64 1000000000000, .int .u64 10000000000000, .int .u64 100000000000000, .int .u64 1000000000000000, .int .u64 10000000000000000, .int .u64 100000000000000000, .int .u64 1000000000000000000, .int .u64 10000000000000000000] t frozen | o => o).modify 1 fun | .cells _ t frozen => .cells #[.int .u8 0, .int .u8 1, .int .u8 28, .int .u8 2, .int .u8 29, .int .u8 14, .int .u8 24, .int .u8 3, .int .u8 30, .int .u8 22, .int .u8 20, .int .u8 15, .int .u8 25, .int .u8 17, .int .u8 4, .int .u8 8, .int .u8 31, .int .u8 27, .int .u8 13, .int .u8 23, .int .u8 21, .int .u8 19, .int .u8 16, .int .u8 7, .int .u8 26, .int .u8 12, .int .u8 18, .int .u8 6, .int .u8 11, .int .u8 5, .int .u8 10, .int .u8 9] t frozen | o => o).modify 2 fun | .cells _ t frozen => .cells #[.int .u8 0, .int .u8 1, .int .u8 56, .int .u8 2, .int .u8 57, .int .u8 49, .int .u8 28, .int .u8 3, .int .u8 61, .int .u8 58, .int .u8 42, .int .u8 50, .int .u8 38, .int .u8 29, .int .u8 17, .int .u8 4, .int .u8 62, .int .u8 47, .int .u8 59, .int .u8 36, .int .u8 45, .int .u8 43, .int .u8 51, .int .u8 22, .int .u8 53, .int .u8 39, .int .u8 33, .int .u8 30, .int .u8 24, .int .u8 18, .int .u8 12, .int .u8 5, .int .u8 63, .int .u8 55, .int .u8 48, .int .u8 27, .int .u8 60, .int .u8 41, .int .u8 37, .int .u8 16, .int .u8 46, .int .u8 35, .int .u8 44, .int .u8 21, .int .u8 52, .int .u8 32, .int .u8 23, .int .u8 11, .int .u8 54, .int .u8 26, .int .u8 40, .int .u8 15, .int .u8 34, .int .u8 20, .int .u8 31, .int .u8 10, .int .u8 25, .int .u8 14, .int .u8 19, .int .u8 9, .int .u8 13, .int .u8 8, .int .u8 7, .int .u8 6] t frozen | o => o } : World).forCall (fun _ _ => 0) ⟨#[], #[.slice none 0 0], []⟩).memory Tryd.f5.params.toList Rows.storeOwnSpec.vars false (#[.slice none 0 0] : Array Value).toList 8 = some ([.nil], [], places) :=
  ⟨[], by kernel_rfl⟩

set_option maxRecDepth 100000 in
theorem lifted (os : Os) (started : os.Started) (H : Type) (enc : TypeId × Value → H) (F : Stop.Interp) :
    ReturnsInHanded {} Tryd.checked os 5 .any ((OpenSpec.ofChange Rows.storeOwnSpec).preRow enc Tryd.prog Tryd.f5 Rows.storeOwnRow.domain false Rows.storeOwnRow.laid) (((OpenSpec.ofChange Rows.storeOwnSpec).at F).post enc Tryd.prog Tryd.f5 false true false false) := by
  obtain ⟨places, hx⟩ := reads os enc
  refine returnsInHanded_of_row (C := Tryd.checked) (s := OpenSpec.ofChange Rows.storeOwnSpec) own started (by kernel_rfl) Tryd.func5
    (witness_row_at (enc := enc) (C := Tryd.checked) false ({ World.holding Tryd.prog os ⟨#[], #[], []⟩ with heap := (((World.holding Tryd.prog os ⟨#[], #[], []⟩).heap.modify 0 fun | .cells _ t frozen => .cells #[.int .u64 1, .int .u64 10, .int .u64 100, .int .u64 1000, .int .u64 10000, .int .u64 100000, .int .u64 1000000, .int .u64 10000000, .int .u64 100000000, .int .u64 1000000000, .int .u64 10000000000, .int .u64 100000000000, .int .u64 1000000000000, .int .u64 10000000000000, .int .u64 100000000000000, .int .u64 1000000000000000, .int .u64 10000000000000000, .int .u64 100000000000000000, .int .u64 1000000000000000000, .int .u64 10000000000000000000] t frozen | o => o).modify 1 fun | .cells _ t frozen => .cells #[.int .u8 0, .int .u8 1, .int .u8 28, .int .u8 2, .int .u8 29, .int .u8 14, .int .u8 24, .int .u8 3, .int .u8 30, .int .u8 22, .int .u8 20, .int .u8 15, .int .u8 25, .int .u8 17, .int .u8 4, .int .u8 8, .int .u8 31, .int .u8 27, .int .u8 13, .int .u8 23, .int .u8 21, .int .u8 19, .int .u8 16, .int .u8 7, .int .u8 26, .int .u8 12, .int .u8 18, .int .u8 6, .int .u8 11, .int .u8 5, .int .u8 10, .int .u8 9] t frozen | o => o).modify 2 fun | .cells _ t frozen => .cells #[.int .u8 0, .int .u8 1, .int .u8 56, .int .u8 2, .int .u8 57, .int .u8 49, .int .u8 28, .int .u8 3, .int .u8 61, .int .u8 58, .int .u8 42, .int .u8 50, .int .u8 38, .int .u8 29, .int .u8 17, .int .u8 4, .int .u8 62, .int .u8 47, .int .u8 59, .int .u8 36, .int .u8 45, .int .u8 43, .int .u8 51, .int .u8 22, .int .u8 53, .int .u8 39, .int .u8 33, .int .u8 30, .int .u8 24, .int .u8 18, .int .u8 12, .int .u8 5, .int .u8 63, .int .u8 55, .int .u8 48, .int .u8 27, .int .u8 60, .int .u8 41, .int .u8 37, .int .u8 16, .int .u8 46, .int .u8 35, .int .u8 44, .int .u8 21, .int .u8 52, .int .u8 32, .int .u8 23, .int .u8 11, .int .u8 54, .int .u8 26, .int .u8 40, .int .u8 15, .int .u8 34, .int .u8 20, .int .u8 31, .int .u8 10, .int .u8 25, .int .u8 14, .int .u8 19, .int .u8 9, .int .u8 13, .int .u8 8, .int .u8 7, .int .u8 6] t frozen | o => o } : World) #[.slice none 0 0] rfl (by kernel_rfl) (by kernel_rfl) (by kernel_rfl)
      (OpenSpec.preRow_of_cond 8 hx (by kernel_rfl) (fun k hk => by cases hk) (by kernel_rfl) (laid_met os))) ?_
  intro W base args ds gs before hval hW _ _ _ hL _ _
  exact contract H enc W base args ds gs before hval hW hL

theorem said : Rows.StoreOwnSaid :=
  OpenClaim.holds_of_cond 5 Tryd.f5 rfl rfl rfl rfl rfl rfl rfl ⟨rfl, rfl, rfl, rfl, rfl⟩ rfl rfl rfl rfl rfl (by kernel_rfl) Tryd.func5 (by kernel_rfl)
    (of_decide_eq_true (by kernel_rfl)) (by unfold Func.isWrapper; first | (rw [if_pos (by decide +kernel)]; kernel_rfl) | (rw [if_neg (by decide +kernel)]; exact ⟨rfl, rfl⟩))
    (fun os started H enc _ F => by rw [OpenClaim.pre_eq_preRow]; exact lifted os started H enc F)

theorem plain (f : FuncId) (fn : Func) (hf : Tryd.pinned.checked.prog.funcNamed Rows.storeOwnRow.func = some f) (hfn : Tryd.pinned.checked.prog.funcs[f]? = some fn) :
    false = Tryd.pinned.checked.prog.looks [] ∧ ∀ (j : Nat) t, fn.params[j]? = some t → Tryd.pinned.checked.prog.wantsStandIn t = false := by
  obtain rfl : f = 5 := Option.some.inj ((show Tryd.prog.funcNamed Rows.storeOwnRow.func = some 5 by kernel_rfl).symm.trans hf) |>.symm
  obtain rfl : fn = Tryd.f5 := (Option.some.inj (Tryd.func5.symm.trans hfn)).symm
  refine ⟨by kernel_rfl, fun j t ht => ?_⟩
  rw [Tryd.params5] at ht
  have hm : t = 22 := by first | simpa using Array.mem_of_getElem? ht | (have h := Array.mem_of_getElem? ht; simp only [List.mem_toArray, List.mem_cons, List.not_mem_nil, or_false] at h; rcases h with rfl <;> simp)
  rcases hm with rfl
  · exact (show Tryd.prog.wantsStandIn 22 = false by kernel_rfl)

theorem card : Rows.StoreOwnCardSaid :=
  Claim7.holds_tied_plain_at .later [] _ _ _ _ said (fun _ h => by cases h) (by kernel_rfl) (fun _ h => by cases h) storeOwn_row_tie rfl ⟨rfl, rfl⟩ (by kernel_rfl) rfl plain (by kernel_rfl)

end Go.Proofs.YtffnkomnldgcaaaDoor.StoreOwn
namespace Go.Proofs.YtffnkomnldgcaaaDoor
theorem storeOwn_card : Rows.StoreOwnCardSaid := StoreOwn.card
#print axioms storeOwn_card
end Go.Proofs.YtffnkomnldgcaaaDoor

