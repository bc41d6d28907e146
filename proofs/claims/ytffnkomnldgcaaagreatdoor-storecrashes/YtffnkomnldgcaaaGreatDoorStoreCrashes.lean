/-
  P11.3: behind a crash at any operation, whatever is kept, the state is that of what was answered OK, or of that and what was under way: for every list of acts, every count of operations and all that is kept.
  The tables of the library start as its text lays them (the card ties them).
-/
import Derived.Test.YtffnkomnldgcaaaGreatDoorB20
import Derived.Test.YtffnkomnldgcaaaGreatDoorSo16
import Derived.Test.YtffnkomnldgcaaaGreatDoorSo13
import Derived.Test.YtffnkomnldgcaaaGreatDoorB21
import Derived.Test.YtffnkomnldgcaaaGreatDoorCards
import Derived.Test.YtffnkomnldgcaaaGreatDoorTie
import Derived.Lib.LaidTab
import Derived.Deep.DeepHandedRow
import Derived.Deep.RegionHeld3
import Derived.ProofKit
import Derived.OpenShut
import Derived.ShutString
import Derived.ChangeOld
import Derived.SevenTiedAt
namespace Go.Proofs.YtffnkomnldgcaaaGreatDoor.StoreCrashes
open Go.ChangeShapes Go.WideShapes Go.ChangeAt Go.RowKit Go.Pal Go.Pal.Dk Go.Pal.Fr
open Go.ChangeMaps (open_string shut_string)
set_option linter.unusedVariables false

theorem does_at {w7 : World} (s : SS) (v : Vs) (k : Int) (t : ByteArray) (n : Int) (ht : t.size ≤ 1000000) (hu : s.used ≤ 65535) (hq : s.queue.length ≤ v.c2) (W : World) (hW : Below w7.heap.size w7 W) :
    Calls Tryz.prog 10 #[vsV s v, .int .i64 k, .string t, .int .i64 n] W fun e w' => e = .returned (.tuple #[.string (doesR s k t n).2, .int .i64 (doesR s k t n).1]) ∧ Below w7.heap.size w7 w' :=
  (does_any W s v k t n ht hu hq).mono (fun _ _ ⟨a, b⟩ => ⟨a, hW.trans (b.mono hW.size)⟩)

set_option maxHeartbeats 4000000 in
set_option maxRecDepth 100000 in
theorem walk (x : Option Addr) (cap : Nat) (l : List Sa) (arm : Int) (ka : Option Addr) (kc : Nat) (keep : List Int) (w : World) (hA : SactsAt w x l) (hwf : (Lit.int .i64 arm).wf = true) (hk : IntRow w ka keep) (hko : IntsOk keep) :
    Calls Tryz.prog 3 #[.slice x l.length cap, .int .i64 arm, .slice ka keep.length kc] w fun e w' => e = .returned (.bool true) ∧ Below w.heap.size w w' := by
  have HG := Lib.hid (sgreat_any w x cap l hA)
  cases hg : sgreatB l
  · rw [hg] at HG
    obtain ⟨hlen, hsm⟩ := sgreat_no hg
    obtain ⟨i0, I0, Z0, Z1, Z2⟩ : ∃ i : TypeInfo, Tryz.prog.info? 9 = some i ∧ i.zero = some (.string ⟨#[]⟩) ∧ i.size = 1 ∧ i.bytes = 16 := ⟨_, rfl, rfl, rfl, rfl⟩
    have HI := Lib.hid I0
    have HZ0 := Lib.hid Z0
    have HZ1 := Lib.hid Z1
    have HZ2 := Lib.hid Z2
    clear I0 Z0 Z1 Z2
    have HAC := Lib.hid hA
    have HSM := Lib.hid hsm
    have HK := Lib.hid hk
    have HKO := Lib.hid hko
    clear hg hA hsm hk hko
    go_enter Tryz.func3, Tryz.ntmps3
    go_wp2_with fail
    refine HG.out.mono ?_
    rintro e w0 ⟨rfl, rfl⟩
    go_wp2_with fail
    refine (awake11 _).mono ?_
    rintro e w1 ⟨rfl, b1⟩
    have B1 := Lib.hid b1
    clear b1
    have HNEW := Lib.hid (new_yes w1 1048576 (by decide))
    rw [show ((1048576 : Nat) : Int) = 1048576 from rfl] at HNEW
    have HD0 := Lib.hid (new_at w1 w1.heap.size 1048576 (Nat.le_refl _) (by decide))
    rw [show ((1048576 : Nat) : Int) = 1048576 from rfl] at HD0
    go_wp2_with fail
    refine HNEW.out.mono ?_
    rintro e w2 ⟨rfl, rfl⟩
    obtain ⟨w2, hw2⟩ : ∃ W, W = w1.alloc (.cells #[.int .i64 1048576, .int .i64 0, .map none, .bool true, .bool false, .int .i64 0] 54) := ⟨_, rfl⟩
    rw [← hw2] at HD0 ⊢
    have B2 := Lib.hid (show Below w1.heap.size w1 w2 by rw [hw2]; exact (Below.refl _ _).alloc (Nat.le_refl _) _)
    clear hw2 HNEW
    go_wp2_with fail
    refine (open_new HD0.out).mono ?_
    rintro e w3 ⟨B, Lb, L3, ev3, q3, rfl, so3, o3, f3⟩
    have hd0 := HD0.out
    have BS3 := Lib.hid (base_new HD0.out f3)
    have SO3 := Lib.hid so3
    have B3 := Lib.hid (B2.out.trans (o3.below (fun g hg => hd0.foot_base hg) B2.out.size))
    clear so3 o3 f3 hd0 HD0
    go_wp2_with fail
    have HAR := Lib.hid SO3.out.dk
    obtain ⟨am, ham, hale⟩ : ∃ am, am = wrap64 ((IntKind.u64.wrap arm).tmod 60) ∧ am ≤ 9223372036854775807 := ⟨_, rfl, by unfold wrap64; omega⟩
    rw [← ham]
    clear ham
    refine (arm_any HAR.out am hale).mono ?_
    rintro e w4 ⟨rfl, dk4, g4⟩
    have hbs3 := BS3.out
    have PC0 := Lib.hid (show Pc w1 w1.heap.size B Lb w1.heap.size 0 ss0 (armD (newD 1048576) am) L3 [] false ev3 q3 (.slice none 0 0) ByteArray.empty w4 from Pc.ofLive (SO3.out.head dk4 g4) (live_arm (live0 _) am) rfl (fun g hg => hbs3 g hg) (QR.nil _ _ _) (fun g hg => (by cases hg)) (B3.out.trans (below_head g4 (Nat.le_refl _) B3.out.size)))
    clear dk4 g4 hbs3 BS3 SO3 B3 HAR hale
    go_wp2
    go_loopw [10, 11, 12] (fun v uv i wr => ∃ (k : Nat) (s : SS) (d : Dk) (L : Lay) (gs : List (List ByteArray)) (br : Bool) (ev q : Value) (u : ByteArray), k ≤ l.length ∧ i = .int .i64 (k : Int) ∧ uv = .string u ∧ Pc w1 w1.heap.size B Lb w1.heap.size k s d L gs br ev q v u wr) (fun v uv i _ => l.length - (intOf i).toNat)
    case atStart => exact ⟨0, _, _, _, _, _, _, _, ByteArray.empty, Nat.zero_le _, rfl, rfl, PC0.out⟩
    case round =>
      obtain ⟨k, s, d, L, gs, br, ev, q, u, hk, rfl, rfl, hPc⟩ := hrel
      have HP := Lib.hid hPc
      clear hPc PC0
      have BR := Lib.hid (B1.out.trans (HP.out.bel.mono B1.out.size))
      obtain ⟨ra, rc, rfl, hrc, _, hrr⟩ := HP.out.row.form
      have HOF := Lib.hid (of_any wr ra rc gs.flatten hrr (by have := HP.out.flat; omega) (fun y hy => by have := HP.out.recs y hy; omega))
      have hrr0 := HP.out.flat
      have hfn : gs.flatten.length ≤ k := HP.out.flat
      have hfs : ∀ y ∈ gs.flatten, y.size ≤ 65535 := HP.out.recs
      have hof : ofR ss0 gs.flatten = some s := HP.out.of
      have HFS := Lib.hid hfs
      have HOS := Lib.hid hof
      clear hrr hfs hof
      generalize hfl : gs.flatten = fl at *
      have HFL := Lib.hid hfl
      clear hfl
      cases br
      · obtain ⟨hlv, rfl⟩ := HP.out.live rfl
        clear hlv
        by_cases hlt : k < l.length
        ·
          obtain ⟨b, off, rfl, hbl, hcl⟩ := (HAC.out.below BR.out).at_ hlt
          have hok := HAC.out.ok l[k] (List.getElem_mem hlt)
          have hsm := HSM.out l[k] (List.getElem_mem hlt)
          have hn2 := hok.n.2
          have c0 := hcl 0 (by decide)
          have c1 := hcl 1 (by decide)
          have c2 := hcl 2 (by decide)
          simp only [Sa.cells, List.getElem?_cons_zero, List.getElem?_cons_succ] at c0 c1 c2
          generalize l[k].kind = ck at *
          generalize l[k].text = ct at *
          generalize l[k].n = cn at *
          clear hcl hok
          have i1 : (k : Int) < (l.length : Int) := by omega
          have i0' : (0 : Int) ≤ (k : Int) := by omega
          go_wp2_with fail
          refine HOF.out.mono ?_
          rintro e w6 ⟨b6, h6, _⟩
          obtain ⟨_, v6, rfl, vs6, _⟩ := h6 s HOS.out
          have hbl6 : b < w6.heap.size := Nat.lt_of_lt_of_le hbl b6.size
          obtain ⟨w7, hw7⟩ : ∃ W, W = w6.alloc (.cells #[.string s.room, .slice v6.a1 s.events.length v6.c1, .int .i64 (s.used : Int), .slice v6.a2 s.queue.length v6.c2] 36) := ⟨_, rfl⟩
          have b67 : Below w6.heap.size w6 w7 := by rw [hw7]; exact (Below.refl _ _).alloc (Nat.le_refl _) _
          have b7 := b6.trans (b67.mono b6.size)
          have B7 := Lib.hid (BR.out.trans (b7.mono BR.out.size))
          have HP7 := Lib.hid (HP.out.below b7)
          have VS7 := Lib.hid (vs6.below b67)
          have hR7 : Blk w7 w6.heap.size 36 [.string s.room, .slice v6.a1 s.events.length v6.c1, .int .i64 (s.used : Int), .slice v6.a2 s.queue.length v6.c2] := by rw [hw7]; exact Blk.new w6 _ _
          have d0 : w7.cell? ⟨b, off + k * 3, none⟩ = some (.int .i64 ck) := (b7.cell (p := ⟨b, off + k * 3, none⟩) hbl).trans c0
          have d1 : w7.cell? ⟨b, off + k * 3 + 1, none⟩ = some (.string ct) := (b7.cell (p := ⟨b, off + k * 3 + 1, none⟩) hbl).trans c1
          have d2 : w7.cell? ⟨b, off + k * 3 + 2, none⟩ = some (.int .i64 cn) := (b7.cell (p := ⟨b, off + k * 3 + 2, none⟩) hbl).trans c2
          have hbl7 : b < w7.heap.size := Nat.lt_of_lt_of_le hbl b7.size
          have hus := HP.out.so.st.used
          clear b6 h6 vs6 c0 c1 c2 HOF b67 b7
          unfold vsV
          go_wp2
          rw [← hw7]
          clear hw7
          obtain ⟨R, hR⟩ : ∃ R, R = w6.heap.size := ⟨_, rfl⟩
          rw [← hR] at hR7 ⊢
          clear hR
          have hRl : R < w7.heap.size := hR7.lt
          have k0 : w7.cell? ⟨R, 0, none⟩ = some (.string s.room) := hR7.cell 0
          have k1 : w7.cell? ⟨R, 1, none⟩ = some (.slice v6.a1 s.events.length v6.c1) := hR7.cell 1
          have k2 : w7.cell? ⟨R, 2, none⟩ = some (.int .i64 (s.used : Int)) := hR7.cell 2
          have k3 : w7.cell? ⟨R, 3, none⟩ = some (.slice v6.a2 s.queue.length v6.c2) := hR7.cell 3
          have kkk0 : w7.drew.cell? ⟨R, 0, none⟩ = some (.string s.room) := k0
          have kkk1 : w7.drew.cell? ⟨R, 1, none⟩ = some (.slice v6.a1 s.events.length v6.c1) := k1
          have kkk2 : w7.drew.cell? ⟨R, 2, none⟩ = some (.int .i64 (s.used : Int)) := k2
          have kkk3 : w7.drew.cell? ⟨R, 3, none⟩ = some (.slice v6.a2 s.queue.length v6.c2) := k3
          have kkd0 : w7.drew.cell? ⟨b, off + k * 3, none⟩ = some (.int .i64 ck) := d0
          have kkd1 : w7.drew.cell? ⟨b, off + k * 3 + 1, none⟩ = some (.string ct) := d1
          have kkd2 : w7.drew.cell? ⟨b, off + k * 3 + 2, none⟩ = some (.int .i64 cn) := d2
          have HDO := Lib.hid (fun W hW => does_at (w7 := w7) s v6 ck ct cn (by omega) hus VS7.out.n2 W hW)
          obtain ⟨er, rb, hdr⟩ : ∃ er rb, doesR s ck ct cn = (er, rb) := ⟨_, _, rfl⟩
          rw [hdr] at HDO
          have HDR := Lib.hid hdr
          have bdr : Below w7.heap.size w7 w7.drew := (Below.refl _ _).drew
          clear hR7 hdr hus
          go_region_held3 (fun w' => w'.cell? ⟨R, 0, none⟩ = some (.string s.room) ∧ w'.cell? ⟨R, 1, none⟩ = some (.slice v6.a1 s.events.length v6.c1) ∧ w'.cell? ⟨R, 2, none⟩ = some (.int .i64 (s.used : Int)) ∧ w'.cell? ⟨R, 3, none⟩ = some (.slice v6.a2 s.queue.length v6.c2) ∧ w'.cell? ⟨b, off + k * 3, none⟩ = some (.int .i64 ck) ∧ w'.cell? ⟨b, off + k * 3 + 1, none⟩ = some (.string ct) ∧ w'.cell? ⟨b, off + k * 3 + 2, none⟩ = some (.int .i64 cn))
            (first | with_reducible exact ⟨(b8.cell (p := ⟨R, 0, none⟩) hRl).trans k0, (b8.cell (p := ⟨R, 1, none⟩) hRl).trans k1, (b8.cell (p := ⟨R, 2, none⟩) hRl).trans k2, (b8.cell (p := ⟨R, 3, none⟩) hRl).trans k3, (b8.cell (p := ⟨b, off + k * 3, none⟩) hbl7).trans d0, (b8.cell (p := ⟨b, off + k * 3 + 1, none⟩) hbl7).trans d1, (b8.cell (p := ⟨b, off + k * 3 + 2, none⟩) hbl7).trans d2⟩ | with_reducible exact (b8.cell (p := ⟨R, 0, none⟩) hRl).trans k0 | with_reducible exact (b8.cell (p := ⟨R, 1, none⟩) hRl).trans k1 | with_reducible exact (b8.cell (p := ⟨R, 2, none⟩) hRl).trans k2 | with_reducible exact (b8.cell (p := ⟨R, 3, none⟩) hRl).trans k3 | with_reducible exact (b8.cell (p := ⟨b, off + k * 3, none⟩) hbl7).trans d0 | with_reducible exact (b8.cell (p := ⟨b, off + k * 3 + 1, none⟩) hbl7).trans d1 | with_reducible exact (b8.cell (p := ⟨b, off + k * 3 + 2, none⟩) hbl7).trans d2 | with_reducible exact ⟨kkk0, kkk1, kkk2, kkk3, kkd0, kkd1, kkd2⟩ | with_reducible exact kkk0 | with_reducible exact kkk1 | with_reducible exact kkk2 | with_reducible exact kkk3 | with_reducible exact kkd0 | with_reducible exact kkd1 | with_reducible exact kkd2 | fail)
            (first
              | (go_at_call 10; refine (HDO.out _ (by first | exact bdr)).mono ?_; rintro e w8 ⟨rfl, b8⟩))
          have HP8 := Lib.hid (HP7.out.below b8)
          have B8 := Lib.hid (B7.out.trans (b8.mono B7.out.size))
          have d0' := (b8.cell (p := ⟨b, off + k * 3, none⟩) hbl7).trans d0
          have d1' := (b8.cell (p := ⟨b, off + k * 3 + 1, none⟩) hbl7).trans d1
          have d2' := (b8.cell (p := ⟨b, off + k * 3 + 2, none⟩) hbl7).trans d2
          have HDO2 := Lib.hid (do_so HP8.out.so ((HP8.out.live rfl).1.ready (by omega)) ck ct cn hn2 (fun he => by
            have h1 := (HP8.out.live rfl).1.used
            have h2 := HP8.out.room
            have h3 := rec_small' he hsm.1
            omega))
          clear b8 d0 d1 d2 k0 k1 k2 k3 kkk0 kkk1 kkk2 kkk3 kkd0 kkd1 kkd2 bdr HDO HP7 VS7 B7 HP
          go_wp2_with fail
          refine HDO2.out.mono ?_
          intro e w9 hA
          clear HDO2 d0' d1' d2'
          by_cases he : er = 0
          · subst he
            have hl := hA.2 (by rw [HDR.out])
            rw [HDR.out] at hl
            dsimp only at hl
            have hrs : rb.size ≤ 1001 := by have := rec_small' (s := s) (kind := ck) (t := ct) (n := cn) (by rw [HDR.out]) hsm.1; rw [HDR.out] at this; exact this
            have htk : takeR s rb = some (afterR s ck ct cn) := by have := does_take s ck ct cn (by rw [HDR.out]); rw [HDR.out] at this; exact this
            have hr0 : rb.size ≠ 0 := fun e => by unfold takeR at htk; rw [if_pos e] at htk; cases htk
            rcases hl with ⟨d', rfl, di9, ok9⟩ | ⟨d', rfl, di9, bad9⟩
            · have lv9 := (HP8.out.live rfl).1.next (by omega) HP8.out.so.dk.good.sorted (by omega) htk ok9
              have H9 := Lib.hid (And.intro di9 (And.intro lv9 ok9.room))
              obtain ⟨q9, z9, y9⟩ := HP8.out.rowDid di9
              rw [HFL.out] at q9
              have QA := Lib.hid (q9.below (w' := w9.alloc (.cells #[.string rb] 9)) ((Below.refl _ _).alloc (Nat.le_refl _) _) (Nat.le_refl _))
              have HN1 := Lib.hid (one_new w9 9 rb)
              have HB2 := Lib.hid (show w1.heap.size ≤ (w9.alloc (.cells #[.string rb] 9)).heap.size by simp; omega)
              have HL2 := Lib.hid (show fl.length ≤ 1000000000 by omega)
              clear hA di9 lv9 ok9 q9 z9 y9 htk hr0
              go_wp2_with (at_builtin; refine wpList_append_q _ rfl _ _ 34 rfl w1.heap.size 9 i0 Tryz.underlying34 HI.out HZ0.out HZ1.out HZ2.out _ fl rfl QA.out ⟨w9.heap.size, 0, none⟩ 1 rb rfl HN1.out HL2.out HB2.out ?_)
              intro v2 wt q2 g2 a2
              obtain ⟨a9, cap9, rfl, _, _, hrt⟩ := q2.form
              obtain ⟨di9, lv9, rm9⟩ := H9.out
              obtain ⟨L2, ev2, q22, hp2⟩ := HP8.out.act di9 lv9 hrs rm9 (by rw [HFL.out]; exact q2) g2 a2
              have HPN := Lib.hid hp2
              clear QA HN1 HB2 HL2 H9 g2 a2 q2 di9 lv9 rm9 HDR hrs hp2 hrt
              go_wp2
              go_roundw
              case rel =>
                have hp := HPN.out
                exact ⟨k + 1, _, _, L2, _, false, ev2, q22, ByteArray.empty, hlt, by go_num, rfl, hp⟩
              case measure => simp [intOf]; omega
            · obtain ⟨L2, ev2, q22, hp2⟩ := HP8.out.bad (by omega) di9 bad9 (by omega) hr0 htk
              have HPN := Lib.hid hp2
              clear hA di9 bad9 hp2 htk hr0 hrs
              go_wp2
              go_roundw
              case rel =>
                have hp := HPN.out
                exact ⟨k + 1, s, _, L2, _, true, ev2, q22, rb, hlt, by go_num, rfl, hp⟩
              case measure => simp [intOf]; omega
          · obtain ⟨rfl, b9⟩ := hA.1 (by rw [HDR.out]; exact he)
            rw [HDR.out]
            have HPN := Lib.hid (HP8.out.below b9).up
            clear hA b9 HDR
            go_wp2
            go_roundw
            case rel =>
              have hp := HPN.out
              exact ⟨k + 1, s, d, L, gs, false, ev, q, ByteArray.empty, hlt, by go_num, rfl, hp⟩
            case measure => simp [intOf]; omega
        ·
          have hsz : SzS s 1000000 := HP.out.sz.up (by omega)
          go_wp2_with fail
          refine (state_any HP.out.so.st hsz).mono ?_
          rintro e w3 ⟨v1, v2, rfl, q1, q2, ap, b3⟩
          obtain ⟨a1, c1, rfl, n1, m1, r1⟩ := q1.form
          obtain ⟨a2, c2, rfl, n2, m2, r2⟩ := q2.form
          have hz3 := b3.size
          go_wp2_with fail
          refine (as_any w3 s ⟨a1, c1, a2, c2⟩).mono ?_
          rintro e w4 ⟨rfl, b4⟩
          have hz4 := b4.size
          obtain ⟨v3, hv3⟩ : ∃ v : Vs, v = ⟨a1, c1, a2, c2⟩ := ⟨_, rfl⟩
          have vs4 : VsAt w4 s v3 := by rw [hv3]; exact (VsAt.below (w := w3) ⟨r1, r2, n1, n2⟩ b4)
          have f1 : ∀ g, (Value.slice v3.a1 s.events.length v3.c1).ownBlock = some g → wr.heap.size ≤ g := fun g hg => by rw [hv3] at hg; exact (q1.lt hg).2.1
          have f2 : ∀ g, (Value.slice v3.a2 s.queue.length v3.c2).ownBlock = some g → wr.heap.size ≤ g := fun g hg => by rw [hv3] at hg; exact (q2.lt hg).2.1
          rw [← hv3]
          clear hv3 r1 r2
          obtain ⟨w5, hw5⟩ : ∃ W, W = w4.alloc (.cells #[.string s.room, .slice v3.a1 s.events.length v3.c1, .int .i64 (s.used : Int), .slice v3.a2 s.queue.length v3.c2] 36) := ⟨_, rfl⟩
          have b45 : Below w4.heap.size w4 w5 := by rw [hw5]; exact (Below.refl _ _).alloc (Nat.le_refl _) _
          have b5 : Below wr.heap.size wr w5 := b3.trans ((b4.trans (b45.mono hz4)).mono hz3)
          have hz5 := b45.size
          have HP5 := Lib.hid (HP.out.below b5)
          have HV5 := Lib.hid (vs4.below b45)
          have HR5 := Lib.hid (show Blk w5 w4.heap.size 36 [.string s.room, .slice v3.a1 s.events.length v3.c1, .int .i64 (s.used : Int), .slice v3.a2 s.queue.length v3.c2] by rw [hw5]; exact Blk.new w4 _ _)
          have hfoot : ∀ g, Foot w1.heap.size d.files L g → g < wr.heap.size := fun g hg => HP.out.so.lt (.inr (.inr hg))
          have hrow : ∀ g, (Value.slice ra fl.length rc).ownBlock = some g → g < wr.heap.size ∧ ¬ Foot w1.heap.size d.files L g := fun g hg => ⟨(HP.out.row.lt hg).1, fun hf => HP.out.apart g hg (.inr (.inr hf))⟩
          obtain ⟨R, hR⟩ : ∃ R, R = w4.heap.size := ⟨_, rfl⟩
          have hRw : wr.heap.size ≤ R := by omega
          have BR5 := Lib.hid (B1.out.trans (HP5.out.bel.mono B1.out.size))
          have hk5 : IntRow w5 ka keep := by
            rcases HK.out with h0 | ⟨b, off, e, h1, h2⟩
            · exact .inl h0
            · exact .inr ⟨b, off, e, Nat.lt_of_lt_of_le h1 BR5.out.size, fun i hi => (BR5.out.cell (p := ⟨b, off + i, none⟩) h1).trans (h2 i hi)⟩
          have hkf : ∀ b off, keep ≠ [] → ka = some ⟨b, off, none⟩ → ¬ Foot w1.heap.size d.files L b := by
            intro b off hne e hf
            rcases HK.out with h0 | ⟨b', off', e', h1, _⟩
            · exact hne h0
            · rw [e] at e'; cases e'
              have := HP5.out.so.dk.foot_base hf
              have := B1.out.size
              omega
          have HCR := Lib.hid (crash_any HP5.out.so.dk (by have := HP5.out.len; omega) keep ka kc hk5 hkf HKO.out.1 HKO.out.2)
          have HFX := Lib.hid (And.intro hfoot (And.intro hrow (And.intro f1 f2)))
          have HRES := Lib.hid (And.intro hRw (And.intro hz3 (And.intro hz4 hz5)))
          have HU := Lib.hid (fun (b : Bool) (e : b = false) (hb : b = true) => HP.out.und (e ▸ hb))
          clear q1 q2 ap b3 b4 b45 b5 vs4 f1 f2 hk5 hkf hfoot hrow HP HOF hrr0 n1 n2 m1 m2 hz3 hz4 hz5
          unfold vsV
          go_wp2_with fail
          rw [← hw5]
          rw [← hR] at HR5 ⊢
          clear hw5 hR
          refine HCR.out.mono ?_
          rintro e w6 ⟨rfl, wn⟩
          obtain ⟨L1, dk6, kp6, bl6, hft6, hthen⟩ := crash_keep HP5.out.so.dk wn
          obtain ⟨gs2, tl, sg, hcase⟩ := HP5.out.crash keep
          have hlen2 : gs2.flatten.length ≤ 1000000 := by
            rcases hcase with h | ⟨_, h⟩
            · rw [h, HFL.out]; omega
            · rw [h, HFL.out, List.length_append]; simp; omega
          obtain ⟨s2, hs2, hs2c⟩ : ∃ s2, ofR ss0 gs2.flatten = some s2 ∧ (s2 = s ∨ (false = true ∧ takeR s ByteArray.empty = some s2)) := by
            rcases hcase with h | ⟨hb, h⟩
            · exact ⟨s, by rw [h, HFL.out]; exact HOS.out, .inl rfl⟩
            · obtain ⟨_, _, s', ht⟩ := HU.out false rfl hb
              exact ⟨s', by rw [h, HFL.out, ofR_snoc, HOS.out]; exact ht, .inr ⟨hb, ht⟩⟩
          have HOP := Lib.hid (open_so dk6 rfl rfl sg hlen2)
          have HTH := Lib.hid (And.intro (fun w2 ho => hthen _ w2 (fun g h => h) ho) hs2)
          clear HCR wn dk6 kp6 bl6 hthen sg hcase hs2 HK
          go_wp2_with fail
          refine HOP.out.mono ?_
          rintro e w7 ⟨h1, _⟩
          obtain ⟨B7, Lb7, L7, ev7, q7, rfl, so7, sz7, o7, f7⟩ := h1 s2 HTH.out.2
          obtain ⟨kp7, bl7⟩ := HTH.out.1 w7 o7
          have hz7 : SzS s2 1000000 := sz7.up hlen2
          have q9 : QR w7 9 w1.heap.size (.slice ra fl.length rc) fl := by
            have := HP5.out.row
            rw [HFL.out] at this
            exact this.keep (fun g hg => kp7 g (this.lt hg).1 (HFX.out.2.1 g hg).2)
          have hwr5 : wr.heap.size ≤ w5.heap.size := by have := HRES.out; omega
          have vs7 : VsAt w7 s v3 := HV5.out.keep (fun g hl hg => kp7 g hl (fun hf => by have := HFX.out.1 g hf; have := HFX.out.2.2.1 g hg; omega)) (fun g hl hg => kp7 g hl (fun hf => by have := HFX.out.1 g hf; have := HFX.out.2.2.2 g hg; omega))
          have hR7 : Blk w7 R 36 [.string s.room, .slice v3.a1 s.events.length v3.c1, .int .i64 (s.used : Int), .slice v3.a2 s.queue.length v3.c2] := (kp7 R HR5.out.lt (fun hf => by have := HFX.out.1 R hf; have := HRES.out.1; omega)).trans HR5.out
          obtain ⟨_, _, ht0, _, _, hrt⟩ := q9.form
          cases ht0
          have HOF7 := Lib.hid (of_any w7 ra rc fl hrt (by omega) (fun y hy => by have := HFS.out y hy; omega))
          have H7 := Lib.hid (And.intro so7 (And.intro vs7 (And.intro hR7 (And.intro q9 (And.intro bl7 hz7)))))
          have hfar7 : (∀ g, (Value.slice ra fl.length rc).ownBlock = some g → g < wr.heap.size) ∧ (∀ g, (Value.slice v3.a1 s.events.length v3.c1).ownBlock = some g → wr.heap.size ≤ g) ∧ (∀ g, (Value.slice v3.a2 s.queue.length v3.c2).ownBlock = some g → wr.heap.size ≤ g) ∧ wr.heap.size ≤ w7.heap.size := ⟨fun g hg => (HFX.out.2.1 g hg).1, HFX.out.2.2.1, HFX.out.2.2.2, by have := hR7.lt; have := HRES.out.1; omega⟩
          have HFR := Lib.hid hfar7
          have hR7l := hR7.lt
          have hsoF : ∀ g, (Value.slice ra fl.length rc).ownBlock = some g → ¬ SoF B7 Lb7 w1.heap.size (openD (crashD d keep) gs2 tl) L7 ev7 q7 g := by
            intro g hg hs
            have h9 := HFX.out.2.1 g hg
            have h8 := HRES.out
            rcases f7 g hs with h | h
            · rcases hft6.1 g h with h | h
              · exact h9.2 h
              · omega
            · have := hft6.2; omega
          have HSF := Lib.hid hsoF
          clear hsoF f7 hft6
          clear h1 so7 sz7 o7 kp7 bl7 q9 vs7 hR7 hrt HOP HTH HP5 HV5 HR5 hz7 hfar7
          go_wp2_with fail
          refine HOF7.out.mono ?_
          rintro e w8 ⟨b8, h8, _⟩
          obtain ⟨_, v8, rfl, vs8, va8, vb8⟩ := h8 s HOS.out
          obtain ⟨so7, vs7, hR7, q9, bl7, hz7⟩ := H7.out
          obtain ⟨w9, hw9⟩ : ∃ W, W = w8.alloc (.cells #[.string s.room, .slice v8.a1 s.events.length v8.c1, .int .i64 (s.used : Int), .slice v8.a2 s.queue.length v8.c2] 36) := ⟨_, rfl⟩
          have b89 : Below w8.heap.size w8 w9 := by rw [hw9]; exact (Below.refl _ _).alloc (Nat.le_refl _) _
          have b79 : Below w7.heap.size w7 w9 := b8.trans (b89.mono b8.size)
          have hY9 : Blk w9 w8.heap.size 36 [.string s.room, .slice v8.a1 s.events.length v8.c1, .int .i64 (s.used : Int), .slice v8.a2 s.queue.length v8.c2] := by rw [hw9]; exact Blk.new w8 _ _
          obtain ⟨Y, hY⟩ : ∃ Y, Y = w8.heap.size := ⟨_, rfl⟩
          have hRY : R < Y := by have := hR7.lt; have := b8.size; omega
          have H9 := Lib.hid (And.intro (so7.below b79 (Nat.le_refl _)) (And.intro (vs7.below b79) (And.intro (vs8.below b89) (And.intro (hR7.below b79 hR7.lt) (And.intro (q9.below b79 (Nat.le_refl _)) (BR5.out.trans ((bl7.mono B1.out.size).trans (b79.mono (by have := BR5.out.size; have := bl7.size; omega)))))))))
          have HZ7 := Lib.hid hz7
          clear b8 h8 vs8 so7 vs7 hR7 q9 bl7 hz7 b89 b79 H7 HOF7
          unfold vsV
          go_wp2
          rw [← hw9]
          rw [← hY] at hY9 ⊢
          clear hw9 hY
          obtain ⟨so9, vs3, vs8, hR9, q9, bel9⟩ := H9.out
          have hs2s : s2 = s := by
            rcases hs2c with h | ⟨h, _⟩
            · exact h
            · cases h
          rw [hs2s] at so9 HZ7
          have hlR : R < w9.heap.size := hR9.lt
          have hlY : Y < w9.heap.size := hY9.lt
          have k0 : w9.cell? ⟨R, 0, none⟩ = some (.string s.room) := hR9.cell 0
          have k1 : w9.cell? ⟨R, 1, none⟩ = some (.slice v3.a1 s.events.length v3.c1) := hR9.cell 1
          have k2 : w9.cell? ⟨R, 2, none⟩ = some (.int .i64 (s.used : Int)) := hR9.cell 2
          have k3 : w9.cell? ⟨R, 3, none⟩ = some (.slice v3.a2 s.queue.length v3.c2) := hR9.cell 3
          have y0 : w9.cell? ⟨Y, 0, none⟩ = some (.string s.room) := hY9.cell 0
          have y1 : w9.cell? ⟨Y, 1, none⟩ = some (.slice v8.a1 s.events.length v8.c1) := hY9.cell 1
          have y2 : w9.cell? ⟨Y, 2, none⟩ = some (.int .i64 (s.used : Int)) := hY9.cell 2
          have y3 : w9.cell? ⟨Y, 3, none⟩ = some (.slice v8.a2 s.queue.length v8.c2) := hY9.cell 3
          have kkk0 : w9.drew.cell? ⟨R, 0, none⟩ = some (.string s.room) := k0
          have kkk1 : w9.drew.cell? ⟨R, 1, none⟩ = some (.slice v3.a1 s.events.length v3.c1) := k1
          have kkk2 : w9.drew.cell? ⟨R, 2, none⟩ = some (.int .i64 (s.used : Int)) := k2
          have kkk3 : w9.drew.cell? ⟨R, 3, none⟩ = some (.slice v3.a2 s.queue.length v3.c2) := k3
          have kky0 : w9.drew.cell? ⟨Y, 0, none⟩ = some (.string s.room) := y0
          have kky1 : w9.drew.cell? ⟨Y, 1, none⟩ = some (.slice v8.a1 s.events.length v8.c1) := y1
          have kky2 : w9.drew.cell? ⟨Y, 2, none⟩ = some (.int .i64 (s.used : Int)) := y2
          have kky3 : w9.drew.cell? ⟨Y, 3, none⟩ = some (.slice v8.a2 s.queue.length v8.c2) := y3
          have bdr : Below w9.heap.size w9 w9.drew := (Below.refl _ _).drew
          have BEL9 := Lib.hid bel9
          have HSTA := Lib.hid (state_at so9.st HZ7.out)
          have HASA := Lib.hid (fun Wq v hv hq => as_at (w7 := w9) (s := s) Wq v hv hq)
          have HSM2 := Lib.hid (fun Wq v hv hq => same_at (w7 := w9) hsz hsz vs8 Wq v hv hq)
          have HSM1 := Lib.hid (fun Wq hq => same_at (w7 := w9) hsz hsz vs8 Wq v3 (vs3.below hq) hq)
          rw [sameB_self] at HSM1 HSM2
          clear so9 vs3 vs8 hR9 q9 bel9 hs2s hs2c H9 hY9 HZ7
          go_region_held3 (fun w' => w'.cell? ⟨R, 0, none⟩ = some (.string s.room) ∧ w'.cell? ⟨R, 1, none⟩ = some (.slice v3.a1 s.events.length v3.c1) ∧ w'.cell? ⟨R, 2, none⟩ = some (.int .i64 (s.used : Int)) ∧ w'.cell? ⟨R, 3, none⟩ = some (.slice v3.a2 s.queue.length v3.c2) ∧ w'.cell? ⟨Y, 0, none⟩ = some (.string s.room) ∧ w'.cell? ⟨Y, 1, none⟩ = some (.slice v8.a1 s.events.length v8.c1) ∧ w'.cell? ⟨Y, 2, none⟩ = some (.int .i64 (s.used : Int)) ∧ w'.cell? ⟨Y, 3, none⟩ = some (.slice v8.a2 s.queue.length v8.c2))
            (first | with_reducible exact ⟨(b25.cell (p := ⟨R, 0, none⟩) hlR).trans k0, (b25.cell (p := ⟨R, 1, none⟩) hlR).trans k1, (b25.cell (p := ⟨R, 2, none⟩) hlR).trans k2, (b25.cell (p := ⟨R, 3, none⟩) hlR).trans k3, (b25.cell (p := ⟨Y, 0, none⟩) hlY).trans y0, (b25.cell (p := ⟨Y, 1, none⟩) hlY).trans y1, (b25.cell (p := ⟨Y, 2, none⟩) hlY).trans y2, (b25.cell (p := ⟨Y, 3, none⟩) hlY).trans y3⟩ | with_reducible exact (b25.cell (p := ⟨R, 0, none⟩) hlR).trans k0 | with_reducible exact (b25.cell (p := ⟨R, 1, none⟩) hlR).trans k1 | with_reducible exact (b25.cell (p := ⟨R, 2, none⟩) hlR).trans k2 | with_reducible exact (b25.cell (p := ⟨R, 3, none⟩) hlR).trans k3 | with_reducible exact (b25.cell (p := ⟨Y, 0, none⟩) hlY).trans y0 | with_reducible exact (b25.cell (p := ⟨Y, 1, none⟩) hlY).trans y1 | with_reducible exact (b25.cell (p := ⟨Y, 2, none⟩) hlY).trans y2 | with_reducible exact (b25.cell (p := ⟨Y, 3, none⟩) hlY).trans y3 | with_reducible exact ⟨(b24.cell (p := ⟨R, 0, none⟩) hlR).trans k0, (b24.cell (p := ⟨R, 1, none⟩) hlR).trans k1, (b24.cell (p := ⟨R, 2, none⟩) hlR).trans k2, (b24.cell (p := ⟨R, 3, none⟩) hlR).trans k3, (b24.cell (p := ⟨Y, 0, none⟩) hlY).trans y0, (b24.cell (p := ⟨Y, 1, none⟩) hlY).trans y1, (b24.cell (p := ⟨Y, 2, none⟩) hlY).trans y2, (b24.cell (p := ⟨Y, 3, none⟩) hlY).trans y3⟩ | with_reducible exact (b24.cell (p := ⟨R, 0, none⟩) hlR).trans k0 | with_reducible exact (b24.cell (p := ⟨R, 1, none⟩) hlR).trans k1 | with_reducible exact (b24.cell (p := ⟨R, 2, none⟩) hlR).trans k2 | with_reducible exact (b24.cell (p := ⟨R, 3, none⟩) hlR).trans k3 | with_reducible exact (b24.cell (p := ⟨Y, 0, none⟩) hlY).trans y0 | with_reducible exact (b24.cell (p := ⟨Y, 1, none⟩) hlY).trans y1 | with_reducible exact (b24.cell (p := ⟨Y, 2, none⟩) hlY).trans y2 | with_reducible exact (b24.cell (p := ⟨Y, 3, none⟩) hlY).trans y3 | with_reducible exact ⟨(b23.cell (p := ⟨R, 0, none⟩) hlR).trans k0, (b23.cell (p := ⟨R, 1, none⟩) hlR).trans k1, (b23.cell (p := ⟨R, 2, none⟩) hlR).trans k2, (b23.cell (p := ⟨R, 3, none⟩) hlR).trans k3, (b23.cell (p := ⟨Y, 0, none⟩) hlY).trans y0, (b23.cell (p := ⟨Y, 1, none⟩) hlY).trans y1, (b23.cell (p := ⟨Y, 2, none⟩) hlY).trans y2, (b23.cell (p := ⟨Y, 3, none⟩) hlY).trans y3⟩ | with_reducible exact (b23.cell (p := ⟨R, 0, none⟩) hlR).trans k0 | with_reducible exact (b23.cell (p := ⟨R, 1, none⟩) hlR).trans k1 | with_reducible exact (b23.cell (p := ⟨R, 2, none⟩) hlR).trans k2 | with_reducible exact (b23.cell (p := ⟨R, 3, none⟩) hlR).trans k3 | with_reducible exact (b23.cell (p := ⟨Y, 0, none⟩) hlY).trans y0 | with_reducible exact (b23.cell (p := ⟨Y, 1, none⟩) hlY).trans y1 | with_reducible exact (b23.cell (p := ⟨Y, 2, none⟩) hlY).trans y2 | with_reducible exact (b23.cell (p := ⟨Y, 3, none⟩) hlY).trans y3 | with_reducible exact ⟨(b22.cell (p := ⟨R, 0, none⟩) hlR).trans k0, (b22.cell (p := ⟨R, 1, none⟩) hlR).trans k1, (b22.cell (p := ⟨R, 2, none⟩) hlR).trans k2, (b22.cell (p := ⟨R, 3, none⟩) hlR).trans k3, (b22.cell (p := ⟨Y, 0, none⟩) hlY).trans y0, (b22.cell (p := ⟨Y, 1, none⟩) hlY).trans y1, (b22.cell (p := ⟨Y, 2, none⟩) hlY).trans y2, (b22.cell (p := ⟨Y, 3, none⟩) hlY).trans y3⟩ | with_reducible exact (b22.cell (p := ⟨R, 0, none⟩) hlR).trans k0 | with_reducible exact (b22.cell (p := ⟨R, 1, none⟩) hlR).trans k1 | with_reducible exact (b22.cell (p := ⟨R, 2, none⟩) hlR).trans k2 | with_reducible exact (b22.cell (p := ⟨R, 3, none⟩) hlR).trans k3 | with_reducible exact (b22.cell (p := ⟨Y, 0, none⟩) hlY).trans y0 | with_reducible exact (b22.cell (p := ⟨Y, 1, none⟩) hlY).trans y1 | with_reducible exact (b22.cell (p := ⟨Y, 2, none⟩) hlY).trans y2 | with_reducible exact (b22.cell (p := ⟨Y, 3, none⟩) hlY).trans y3 | with_reducible exact ⟨kkk0, kkk1, kkk2, kkk3, kky0, kky1, kky2, kky3⟩ | with_reducible exact kkk0 | with_reducible exact kkk1 | with_reducible exact kkk2 | with_reducible exact kkk3 | with_reducible exact kky0 | with_reducible exact kky1 | with_reducible exact kky2 | with_reducible exact kky3 | fail)
            (first
              | (go_at_call 13; refine (HSTA.out _ (by first | exact bdr)).mono ?_; rintro e w22 ⟨v22, rfl, vs22, b22⟩)
              | (go_at_call 12; refine (HASA.out _ v22 vs22 b22).mono ?_; rintro e w23 ⟨rfl, vs23, b23⟩)
              | (go_at_call 15; refine (HSM1.out _ b24).mono ?_; rintro e w25 ⟨rfl, b25⟩)
              | (go_at_call 15; refine (HSM2.out _ v22 vs23 b23).mono ?_; rintro e w24 ⟨rfl, b24⟩))
          have BF := Lib.hid (BEL9.out.trans (b25.mono BEL9.out.size))
          clear vs22 vs23 b22 b23 b24 b25 k0 k1 k2 k3 y0 y1 y2 y3 kkk0 kkk1 kkk2 kkk3 kky0 kky1 kky2 kky3 bdr HSTA HASA HSM1 HSM2
          go_wp2
          go_ret
          exact ⟨rfl, BF.out⟩
      · obtain ⟨hu0, hu1, s', hts⟩ := HP.out.und rfl
        have e0 := size_ne hu0
        have e1 : u.toList.isEmpty = false := by simpa using e0.2
        have e2 := e0.2
        by_cases hlt : k < l.length
        · have i1 : (k : Int) < (l.length : Int) := by omega
          have hsz : SzS s 1000000 := HP.out.sz.up (by omega)
          go_wp2_with fail
          refine (state_any HP.out.so.st hsz).mono ?_
          rintro e w3 ⟨v1, v2, rfl, q1, q2, ap, b3⟩
          obtain ⟨a1, c1, rfl, n1, m1, r1⟩ := q1.form
          obtain ⟨a2, c2, rfl, n2, m2, r2⟩ := q2.form
          have hz3 := b3.size
          go_wp2_with fail
          refine (as_any w3 s ⟨a1, c1, a2, c2⟩).mono ?_
          rintro e w4 ⟨rfl, b4⟩
          have hz4 := b4.size
          obtain ⟨v3, hv3⟩ : ∃ v : Vs, v = ⟨a1, c1, a2, c2⟩ := ⟨_, rfl⟩
          have vs4 : VsAt w4 s v3 := by rw [hv3]; exact (VsAt.below (w := w3) ⟨r1, r2, n1, n2⟩ b4)
          have f1 : ∀ g, (Value.slice v3.a1 s.events.length v3.c1).ownBlock = some g → wr.heap.size ≤ g := fun g hg => by rw [hv3] at hg; exact (q1.lt hg).2.1
          have f2 : ∀ g, (Value.slice v3.a2 s.queue.length v3.c2).ownBlock = some g → wr.heap.size ≤ g := fun g hg => by rw [hv3] at hg; exact (q2.lt hg).2.1
          rw [← hv3]
          clear hv3 r1 r2
          obtain ⟨w5, hw5⟩ : ∃ W, W = w4.alloc (.cells #[.string s.room, .slice v3.a1 s.events.length v3.c1, .int .i64 (s.used : Int), .slice v3.a2 s.queue.length v3.c2] 36) := ⟨_, rfl⟩
          have b45 : Below w4.heap.size w4 w5 := by rw [hw5]; exact (Below.refl _ _).alloc (Nat.le_refl _) _
          have b5 : Below wr.heap.size wr w5 := b3.trans ((b4.trans (b45.mono hz4)).mono hz3)
          have hz5 := b45.size
          have HP5 := Lib.hid (HP.out.below b5)
          have HV5 := Lib.hid (vs4.below b45)
          have HR5 := Lib.hid (show Blk w5 w4.heap.size 36 [.string s.room, .slice v3.a1 s.events.length v3.c1, .int .i64 (s.used : Int), .slice v3.a2 s.queue.length v3.c2] by rw [hw5]; exact Blk.new w4 _ _)
          have hfoot : ∀ g, Foot w1.heap.size d.files L g → g < wr.heap.size := fun g hg => HP.out.so.lt (.inr (.inr hg))
          have hrow : ∀ g, (Value.slice ra fl.length rc).ownBlock = some g → g < wr.heap.size ∧ ¬ Foot w1.heap.size d.files L g := fun g hg => ⟨(HP.out.row.lt hg).1, fun hf => HP.out.apart g hg (.inr (.inr hf))⟩
          obtain ⟨R, hR⟩ : ∃ R, R = w4.heap.size := ⟨_, rfl⟩
          have hRw : wr.heap.size ≤ R := by omega
          have BR5 := Lib.hid (B1.out.trans (HP5.out.bel.mono B1.out.size))
          have hk5 : IntRow w5 ka keep := by
            rcases HK.out with h0 | ⟨b, off, e, h1, h2⟩
            · exact .inl h0
            · exact .inr ⟨b, off, e, Nat.lt_of_lt_of_le h1 BR5.out.size, fun i hi => (BR5.out.cell (p := ⟨b, off + i, none⟩) h1).trans (h2 i hi)⟩
          have hkf : ∀ b off, keep ≠ [] → ka = some ⟨b, off, none⟩ → ¬ Foot w1.heap.size d.files L b := by
            intro b off hne e hf
            rcases HK.out with h0 | ⟨b', off', e', h1, _⟩
            · exact hne h0
            · rw [e] at e'; cases e'
              have := HP5.out.so.dk.foot_base hf
              have := B1.out.size
              omega
          have HCR := Lib.hid (crash_any HP5.out.so.dk (by have := HP5.out.len; omega) keep ka kc hk5 hkf HKO.out.1 HKO.out.2)
          have HFX := Lib.hid (And.intro hfoot (And.intro hrow (And.intro f1 f2)))
          have HRES := Lib.hid (And.intro hRw (And.intro hz3 (And.intro hz4 hz5)))
          have HU := Lib.hid (fun (b : Bool) (e : b = true) (hb : b = true) => HP.out.und (e ▸ hb))
          clear q1 q2 ap b3 b4 b45 b5 vs4 f1 f2 hk5 hkf hfoot hrow HP HOF hrr0 n1 n2 m1 m2 hz3 hz4 hz5
          unfold vsV
          go_wp2_with fail
          rw [← hw5]
          rw [← hR] at HR5 ⊢
          clear hw5 hR
          refine HCR.out.mono ?_
          rintro e w6 ⟨rfl, wn⟩
          obtain ⟨L1, dk6, kp6, bl6, hft6, hthen⟩ := crash_keep HP5.out.so.dk wn
          obtain ⟨gs2, tl, sg, hcase⟩ := HP5.out.crash keep
          have hlen2 : gs2.flatten.length ≤ 1000000 := by
            rcases hcase with h | ⟨_, h⟩
            · rw [h, HFL.out]; omega
            · rw [h, HFL.out, List.length_append]; simp; omega
          obtain ⟨s2, hs2, hs2c⟩ : ∃ s2, ofR ss0 gs2.flatten = some s2 ∧ (s2 = s ∨ (true = true ∧ takeR s u = some s2)) := by
            rcases hcase with h | ⟨hb, h⟩
            · exact ⟨s, by rw [h, HFL.out]; exact HOS.out, .inl rfl⟩
            · obtain ⟨_, _, s', ht⟩ := HU.out true rfl hb
              exact ⟨s', by rw [h, HFL.out, ofR_snoc, HOS.out]; exact ht, .inr ⟨hb, ht⟩⟩
          have HOP := Lib.hid (open_so dk6 rfl rfl sg hlen2)
          have HTH := Lib.hid (And.intro (fun w2 ho => hthen _ w2 (fun g h => h) ho) hs2)
          clear HCR wn dk6 kp6 bl6 hthen sg hcase hs2 HK
          go_wp2_with fail
          refine HOP.out.mono ?_
          rintro e w7 ⟨h1, _⟩
          obtain ⟨B7, Lb7, L7, ev7, q7, rfl, so7, sz7, o7, f7⟩ := h1 s2 HTH.out.2
          obtain ⟨kp7, bl7⟩ := HTH.out.1 w7 o7
          have hz7 : SzS s2 1000000 := sz7.up hlen2
          have q9 : QR w7 9 w1.heap.size (.slice ra fl.length rc) fl := by
            have := HP5.out.row
            rw [HFL.out] at this
            exact this.keep (fun g hg => kp7 g (this.lt hg).1 (HFX.out.2.1 g hg).2)
          have hwr5 : wr.heap.size ≤ w5.heap.size := by have := HRES.out; omega
          have vs7 : VsAt w7 s v3 := HV5.out.keep (fun g hl hg => kp7 g hl (fun hf => by have := HFX.out.1 g hf; have := HFX.out.2.2.1 g hg; omega)) (fun g hl hg => kp7 g hl (fun hf => by have := HFX.out.1 g hf; have := HFX.out.2.2.2 g hg; omega))
          have hR7 : Blk w7 R 36 [.string s.room, .slice v3.a1 s.events.length v3.c1, .int .i64 (s.used : Int), .slice v3.a2 s.queue.length v3.c2] := (kp7 R HR5.out.lt (fun hf => by have := HFX.out.1 R hf; have := HRES.out.1; omega)).trans HR5.out
          obtain ⟨_, _, ht0, _, _, hrt⟩ := q9.form
          cases ht0
          have HOF7 := Lib.hid (of_any w7 ra rc fl hrt (by omega) (fun y hy => by have := HFS.out y hy; omega))
          have H7 := Lib.hid (And.intro so7 (And.intro vs7 (And.intro hR7 (And.intro q9 (And.intro bl7 hz7)))))
          have hfar7 : (∀ g, (Value.slice ra fl.length rc).ownBlock = some g → g < wr.heap.size) ∧ (∀ g, (Value.slice v3.a1 s.events.length v3.c1).ownBlock = some g → wr.heap.size ≤ g) ∧ (∀ g, (Value.slice v3.a2 s.queue.length v3.c2).ownBlock = some g → wr.heap.size ≤ g) ∧ wr.heap.size ≤ w7.heap.size := ⟨fun g hg => (HFX.out.2.1 g hg).1, HFX.out.2.2.1, HFX.out.2.2.2, by have := hR7.lt; have := HRES.out.1; omega⟩
          have HFR := Lib.hid hfar7
          have hR7l := hR7.lt
          have hsoF : ∀ g, (Value.slice ra fl.length rc).ownBlock = some g → ¬ SoF B7 Lb7 w1.heap.size (openD (crashD d keep) gs2 tl) L7 ev7 q7 g := by
            intro g hg hs
            have h9 := HFX.out.2.1 g hg
            have h8 := HRES.out
            rcases f7 g hs with h | h
            · rcases hft6.1 g h with h | h
              · exact h9.2 h
              · omega
            · have := hft6.2; omega
          have HSF := Lib.hid hsoF
          clear hsoF f7 hft6
          clear h1 so7 sz7 o7 kp7 bl7 q9 vs7 hR7 hrt HOP HTH HP5 HV5 HR5 hz7 hfar7
          go_wp2_with fail
          refine HOF7.out.mono ?_
          rintro e w8 ⟨b8, h8, _⟩
          obtain ⟨_, v8, rfl, vs8, va8, vb8⟩ := h8 s HOS.out
          obtain ⟨so7, vs7, hR7, q9, bl7, hz7⟩ := H7.out
          obtain ⟨w9, hw9⟩ : ∃ W, W = w8.alloc (.cells #[.string s.room, .slice v8.a1 s.events.length v8.c1, .int .i64 (s.used : Int), .slice v8.a2 s.queue.length v8.c2] 36) := ⟨_, rfl⟩
          have b89 : Below w8.heap.size w8 w9 := by rw [hw9]; exact (Below.refl _ _).alloc (Nat.le_refl _) _
          have b79 : Below w7.heap.size w7 w9 := b8.trans (b89.mono b8.size)
          have hY9 : Blk w9 w8.heap.size 36 [.string s.room, .slice v8.a1 s.events.length v8.c1, .int .i64 (s.used : Int), .slice v8.a2 s.queue.length v8.c2] := by rw [hw9]; exact Blk.new w8 _ _
          obtain ⟨Y, hY⟩ : ∃ Y, Y = w8.heap.size := ⟨_, rfl⟩
          have hRY : R < Y := by have := hR7.lt; have := b8.size; omega
          have H9 := Lib.hid (And.intro (so7.below b79 (Nat.le_refl _)) (And.intro (vs7.below b79) (And.intro (vs8.below b89) (And.intro (hR7.below b79 hR7.lt) (And.intro (q9.below b79 (Nat.le_refl _)) (BR5.out.trans ((bl7.mono B1.out.size).trans (b79.mono (by have := BR5.out.size; have := bl7.size; omega)))))))))
          have HZ7 := Lib.hid hz7
          clear b8 h8 vs8 so7 vs7 hR7 q9 bl7 hz7 b89 b79 H7 HOF7
          rw [← hY] at hY9
          obtain ⟨so9, vs3, vs8, hR9, q9, bel9⟩ := H9.out
          have hz9 : w9.heap.size = w8.heap.size + 1 := by rw [hw9]; simp
          have QA := Lib.hid (q9.below (w' := w9.alloc (.cells #[.string u] 9)) ((Below.refl _ _).alloc (Nat.le_refl _) _) (Nat.le_refl _))
          have hone := one_new w9 9 u
          rw [hz9] at hone
          have HN1 := Lib.hid hone
          have hb9 : w1.heap.size ≤ w9.heap.size := by have := so9.dk.dbase; have := so9.dk.blk.lt; omega
          have HB2 := Lib.hid (show w1.heap.size ≤ (w9.alloc (.cells #[.string u] 9)).heap.size by simp; omega)
          have HL2 := Lib.hid (show fl.length ≤ 1000000000 by omega)
          have H9Y := Lib.hid hY9
          have HVA := Lib.hid (And.intro va8 vb8)
          rw [hw9] at QA HN1 HB2
          clear so9 vs3 vs8 hR9 q9 bel9 hone hY9 va8 vb8
          unfold vsV
          go_wp2_with (at_builtin; refine wpList_append_q _ rfl _ _ 34 rfl w1.heap.size 9 i0 Tryz.underlying34 HI.out HZ0.out HZ1.out HZ2.out _ fl rfl QA.out ⟨w8.heap.size + 1, 0, none⟩ 1 u rfl HN1.out HL2.out HB2.out ?_)
          intro v10 w10 q10 g10 a10
          rw [← hw9] at g10
          rw [← hY]
          clear QA HN1 HB2 HL2 hw9 hY a10
          obtain ⟨xa, xc, rfl, _, _, hrt10⟩ := q10.form
          obtain ⟨so9, vs3, vs8, hR9, q9, bel9⟩ := H9.out
          have hY9 := H9Y.out
          have hsz10 : w9.heap.size ≤ w10.heap.size := by have := g10.size; simp at this; omega
          have hk10 : ∀ g, g < w9.heap.size → (Value.slice ra fl.length rc).ownBlock ≠ some g → w10.heap[g]? = w9.heap[g]? := fun g hl hne => (g10.block g (by simp; omega) (fun e => hne e.symm)).trans (heap_alloc_old w9 _ hl)
          have hfar : ∀ g, wr.heap.size ≤ g → (Value.slice ra fl.length rc).ownBlock ≠ some g := fun g hg e => by have := HFR.out.1 g e; omega
          have so10 := so9.keep (w' := w10) (fun g hs => hk10 g (so9.lt hs) (fun e => HSF.out g e hs))
          have vs310 := vs3.keep (w' := w10) (fun g hl hg => hk10 g hl (hfar g (HFR.out.2.1 g hg))) (fun g hl hg => hk10 g hl (hfar g (HFR.out.2.2.1 g hg)))
          have vs810 := vs8.keep (w' := w10) (fun g hl hg => hk10 g hl (hfar g (by have := HVA.out.1 g hg; have := HFR.out.2.2.2; omega))) (fun g hl hg => hk10 g hl (hfar g (by have := HVA.out.2 g hg; have := HFR.out.2.2.2; omega)))
          have hRw' := HRES.out.1
          have hR10 : Blk w10 R _ _ := (hk10 R hR9.lt (hfar R hRw')).trans hR9
          have hY10 : Blk w10 Y _ _ := (hk10 Y hY9.lt (hfar Y (by omega))).trans hY9
          have bel10 : Below w0.heap.size w0 w10 := by
            refine bel9.trans ?_
            refine ⟨g10.os, g10.tape, g10.output, hsz10, fun g hl => hk10 g (by have := bel9.size; omega) (fun e => ?_)⟩
            have := (q9.lt e).2.1
            have := B1.out.size
            omega
          have hofB : ofR ss0 (fl ++ [u]) = some s' := by rw [ofR_snoc, HOS.out]; exact hts
          have hlenB : (fl ++ [u]).length ≤ k + 1 := by rw [List.length_append]; simp; omega
          have hrecB : ∀ y ∈ fl ++ [u], y.size ≤ 65535 := fun y hy => by
            rcases List.mem_append.1 hy with h | h
            · exact HFS.out y h
            · rw [List.mem_singleton.1 h]; exact hu1
          have H10 := Lib.hid (And.intro so10 (And.intro vs310 (And.intro vs810 (And.intro hR10 (And.intro hY10 bel10)))))
          clear so9 vs3 vs8 hR9 q9 bel9 hY9 hk10 hfar so10 vs310 vs810 hR10 hY10 bel10 g10 q10 H9 H9Y HVA
          generalize fl ++ [u] = flt at *
          have HOFB := Lib.hid (of_any w10 xa xc flt hrt10 (by omega) (fun y hy => by have := hrecB y hy; omega))
          have HOB := Lib.hid hofB
          clear hofB hrecB hrt10
          go_wp2_with fail
          refine HOFB.out.mono ?_
          rintro e w11 ⟨b11, h11, _⟩
          obtain ⟨hsz11, v11, rfl, vs11, _⟩ := h11 s' HOB.out
          have hsz' : SzS s' 1000000 := hsz11.up (by omega)
          obtain ⟨w12, hw12⟩ : ∃ W, W = w11.alloc (.cells #[.string s'.room, .slice v11.a1 s'.events.length v11.c1, .int .i64 (s'.used : Int), .slice v11.a2 s'.queue.length v11.c2] 36) := ⟨_, rfl⟩
          have b1112 : Below w11.heap.size w11 w12 := by rw [hw12]; exact (Below.refl _ _).alloc (Nat.le_refl _) _
          have b12 : Below w10.heap.size w10 w12 := b11.trans (b1112.mono b11.size)
          have hZ12 : Blk w12 w11.heap.size 36 [.string s'.room, .slice v11.a1 s'.events.length v11.c1, .int .i64 (s'.used : Int), .slice v11.a2 s'.queue.length v11.c2] := by rw [hw12]; exact Blk.new w11 _ _
          obtain ⟨Z, hZ⟩ : ∃ Z, Z = w11.heap.size := ⟨_, rfl⟩
          obtain ⟨so10, vs310, vs810, hR10, hY10, bel10⟩ := H10.out
          have so12 := so10.below b12 (Nat.le_refl _)
          have vs312 := vs310.below b12
          have vs812 := vs810.below b12
          have vs1112 := vs11.below b1112
          have hR12 := hR10.below b12 hR10.lt
          have hY12 := hY10.below b12 hY10.lt
          have BEL12 := Lib.hid (bel10.trans (b12.mono bel10.size))
          clear b11 h11 vs11 b1112 b12 so10 vs310 vs810 hR10 hY10 bel10 H10 HOFB HOB
          unfold vsV
          go_wp2
          rw [← hw12]
          rw [← hZ] at hZ12 ⊢
          clear hw12 hZ
          have hlR : R < w12.heap.size := hR12.lt
          have hlY : Y < w12.heap.size := hY12.lt
          have hlZ : Z < w12.heap.size := hZ12.lt
          have k0 : w12.cell? ⟨R, 0, none⟩ = some (.string s.room) := hR12.cell 0
          have k1 : w12.cell? ⟨R, 1, none⟩ = some (.slice v3.a1 s.events.length v3.c1) := hR12.cell 1
          have k2 : w12.cell? ⟨R, 2, none⟩ = some (.int .i64 (s.used : Int)) := hR12.cell 2
          have k3 : w12.cell? ⟨R, 3, none⟩ = some (.slice v3.a2 s.queue.length v3.c2) := hR12.cell 3
          have y0 : w12.cell? ⟨Y, 0, none⟩ = some (.string s.room) := hY12.cell 0
          have y1 : w12.cell? ⟨Y, 1, none⟩ = some (.slice v8.a1 s.events.length v8.c1) := hY12.cell 1
          have y2 : w12.cell? ⟨Y, 2, none⟩ = some (.int .i64 (s.used : Int)) := hY12.cell 2
          have y3 : w12.cell? ⟨Y, 3, none⟩ = some (.slice v8.a2 s.queue.length v8.c2) := hY12.cell 3
          have z0 : w12.cell? ⟨Z, 0, none⟩ = some (.string s'.room) := hZ12.cell 0
          have z1 : w12.cell? ⟨Z, 1, none⟩ = some (.slice v11.a1 s'.events.length v11.c1) := hZ12.cell 1
          have z2 : w12.cell? ⟨Z, 2, none⟩ = some (.int .i64 (s'.used : Int)) := hZ12.cell 2
          have z3 : w12.cell? ⟨Z, 3, none⟩ = some (.slice v11.a2 s'.queue.length v11.c2) := hZ12.cell 3
          have kkk0 : w12.drew.cell? ⟨R, 0, none⟩ = some (.string s.room) := k0
          have kkk1 : w12.drew.cell? ⟨R, 1, none⟩ = some (.slice v3.a1 s.events.length v3.c1) := k1
          have kkk2 : w12.drew.cell? ⟨R, 2, none⟩ = some (.int .i64 (s.used : Int)) := k2
          have kkk3 : w12.drew.cell? ⟨R, 3, none⟩ = some (.slice v3.a2 s.queue.length v3.c2) := k3
          have kky0 : w12.drew.cell? ⟨Y, 0, none⟩ = some (.string s.room) := y0
          have kky1 : w12.drew.cell? ⟨Y, 1, none⟩ = some (.slice v8.a1 s.events.length v8.c1) := y1
          have kky2 : w12.drew.cell? ⟨Y, 2, none⟩ = some (.int .i64 (s.used : Int)) := y2
          have kky3 : w12.drew.cell? ⟨Y, 3, none⟩ = some (.slice v8.a2 s.queue.length v8.c2) := y3
          have kkz0 : w12.drew.cell? ⟨Z, 0, none⟩ = some (.string s'.room) := z0
          have kkz1 : w12.drew.cell? ⟨Z, 1, none⟩ = some (.slice v11.a1 s'.events.length v11.c1) := z1
          have kkz2 : w12.drew.cell? ⟨Z, 2, none⟩ = some (.int .i64 (s'.used : Int)) := z2
          have kkz3 : w12.drew.cell? ⟨Z, 3, none⟩ = some (.slice v11.a2 s'.queue.length v11.c2) := z3
          have bdr : Below w12.heap.size w12 w12.drew := (Below.refl _ _).drew
          clear hR12 hY12 hZ12
          by_cases hss : s2 = s
          · rw [hss] at so12 HZ7
            clear hss hs2c
            have HSTA := Lib.hid (state_at so12.st HZ7.out)
            have HASA := Lib.hid (fun Wq v hv hq => as_at (w7 := w12) (s := s) Wq v hv hq)
            have HSM1 := Lib.hid (fun Wq hq => same_at (w7 := w12) hsz hsz vs812 Wq v3 (vs312.below hq) hq)
            have HSM2 := Lib.hid (fun Wq v hv hq => same_at (w7 := w12) HZ7.out hsz vs812 Wq v hv hq)
            rw [sameB_self] at HSM1 HSM2
            clear so12 vs312 vs812 vs1112 HZ7
            refine wp_region_held_drew (S := (fun w' => w'.cell? ⟨R, 0, none⟩ = some (.string s.room) ∧ w'.cell? ⟨R, 1, none⟩ = some (.slice v3.a1 s.events.length v3.c1) ∧ w'.cell? ⟨R, 2, none⟩ = some (.int .i64 (s.used : Int)) ∧ w'.cell? ⟨R, 3, none⟩ = some (.slice v3.a2 s.queue.length v3.c2) ∧ w'.cell? ⟨Y, 0, none⟩ = some (.string s.room) ∧ w'.cell? ⟨Y, 1, none⟩ = some (.slice v8.a1 s.events.length v8.c1) ∧ w'.cell? ⟨Y, 2, none⟩ = some (.int .i64 (s.used : Int)) ∧ w'.cell? ⟨Y, 3, none⟩ = some (.slice v8.a2 s.queue.length v8.c2) ∧ w'.cell? ⟨Z, 0, none⟩ = some (.string s'.room) ∧ w'.cell? ⟨Z, 1, none⟩ = some (.slice v11.a1 s'.events.length v11.c1) ∧ w'.cell? ⟨Z, 2, none⟩ = some (.int .i64 (s'.used : Int)) ∧ w'.cell? ⟨Z, 3, none⟩ = some (.slice v11.a2 s'.queue.length v11.c2))) (by kernel_rfl) ?_ (fun hHeld => ?_)
            · exact ⟨kkk0, kkk1, kkk2, kkk3, kky0, kky1, kky2, kky3, kkz0, kkz1, kkz2, kkz3⟩
            refine wpAnyH_take (i := 0) (v := ?_) rfl (by kernel_rfl) (by kernel_rfl) (by kernel_rfl) (fun _ _ _ h => h) (Or.inl ⟨by rfl, ?_⟩) (by assumption) ?_
            rotate_left
            · (intro w hSw; (try dsimp only at hSw); go_simp)
              first | done | with_reducible rfl
            try simp only [Act.put, List.getElem_toArray, List.getElem_cons_zero, List.setIfInBounds_toArray, List.set_cons_zero, List.set_cons_succ]
            refine wpAnyH_take (i := 1) (v := ?_) rfl (by kernel_rfl) (by kernel_rfl) (by kernel_rfl) (fun _ _ _ h => h) (Or.inl ⟨by rfl, ?_⟩) (by assumption) ?_
            rotate_left
            · (intro w hSw; (try dsimp only at hSw); go_simp)
              first | done | with_reducible rfl
            try simp only [Act.put, List.getElem_toArray, List.getElem_cons_zero, List.getElem_cons_succ, List.setIfInBounds_toArray, List.set_cons_zero, List.set_cons_succ]
            refine wpAnyH_take (i := 2) (v := ?_) rfl (by kernel_rfl) (by kernel_rfl) (by kernel_rfl) (fun _ _ _ h => h) (Or.inl ⟨by rfl, ?_⟩) (by assumption) ?_
            rotate_left
            · (intro w hSw; (try dsimp only at hSw); go_simp)
              first | done | with_reducible rfl
            try simp only [Act.put, List.getElem_toArray, List.getElem_cons_zero, List.getElem_cons_succ, List.setIfInBounds_toArray, List.set_cons_zero, List.set_cons_succ]
            refine wpAnyH_take (i := 3) (v := ?_) rfl (by kernel_rfl) (by kernel_rfl) (by kernel_rfl) (fun _ _ _ h => h) (Or.inl ⟨by rfl, ?_⟩) (by assumption) ?_
            rotate_left
            · (intro w hSw; (try dsimp only at hSw); go_simp)
              first | done | with_reducible rfl
            try simp only [Act.put, List.getElem_toArray, List.getElem_cons_zero, List.getElem_cons_succ, List.setIfInBounds_toArray, List.set_cons_zero, List.set_cons_succ]
            refine wpAnyH_ready (rs := [4]) (by kernel_rfl) (by simp) ?_
            refine AllReadyH.cons rfl (fun K hK => ?_) AllReadyH.nil
            go_simp
            go_at_call 15
            refine (HSM1.out _ (by first | exact bdr)).mono ?_
            rintro e w21 ⟨rfl, b21⟩
            try go_wp2_with fail
            refine hK.out _ _ ?_ (fun hHeld => ?_)
            · exact ⟨(b21.cell (p := ⟨R, 0, none⟩) hlR).trans k0, (b21.cell (p := ⟨R, 1, none⟩) hlR).trans k1, (b21.cell (p := ⟨R, 2, none⟩) hlR).trans k2, (b21.cell (p := ⟨R, 3, none⟩) hlR).trans k3, (b21.cell (p := ⟨Y, 0, none⟩) hlY).trans y0, (b21.cell (p := ⟨Y, 1, none⟩) hlY).trans y1, (b21.cell (p := ⟨Y, 2, none⟩) hlY).trans y2, (b21.cell (p := ⟨Y, 3, none⟩) hlY).trans y3, (b21.cell (p := ⟨Z, 0, none⟩) hlZ).trans z0, (b21.cell (p := ⟨Z, 1, none⟩) hlZ).trans z1, (b21.cell (p := ⟨Z, 2, none⟩) hlZ).trans z2, (b21.cell (p := ⟨Z, 3, none⟩) hlZ).trans z3⟩
            clear hK K
            try simp only [Act.put, List.getElem_toArray, List.getElem_cons_zero, List.getElem_cons_succ, List.setIfInBounds_toArray, List.set_cons_zero, List.set_cons_succ]
            refine wpAnyH_take (i := 5) (v := ?_) rfl (by kernel_rfl) (by kernel_rfl) (by kernel_rfl) (fun _ _ _ h => h) (Or.inl ⟨by rfl, ?_⟩) (by assumption) ?_
            rotate_left
            · (intro w hSw; (try dsimp only at hSw); go_simp)
              first | done | with_reducible rfl
            try simp only [Act.put, List.getElem_toArray, List.getElem_cons_zero, List.getElem_cons_succ, List.setIfInBounds_toArray, List.set_cons_zero, List.set_cons_succ]
            refine wpAnyH_take (i := 6) (v := ?_) rfl (by kernel_rfl) (by kernel_rfl) (by kernel_rfl) (fun _ _ _ h => h) (Or.inl ⟨by rfl, ?_⟩) (by assumption) ?_
            rotate_left
            · (intro w hSw; (try dsimp only at hSw); go_simp)
              first | done | with_reducible rfl
            try simp only [Act.put, List.getElem_toArray, List.getElem_cons_zero, List.getElem_cons_succ, List.setIfInBounds_toArray, List.set_cons_zero, List.set_cons_succ]
            refine wpAnyH_take (i := 7) (v := ?_) rfl (by kernel_rfl) (by kernel_rfl) (by kernel_rfl) (fun _ _ _ h => h) (Or.inl ⟨by rfl, ?_⟩) (by assumption) ?_
            rotate_left
            · (intro w hSw; (try dsimp only at hSw); go_simp)
              first | done | with_reducible rfl
            try simp only [Act.put, List.getElem_toArray, List.getElem_cons_zero, List.getElem_cons_succ, List.setIfInBounds_toArray, List.set_cons_zero, List.set_cons_succ]
            refine wpAnyH_take (i := 10) (v := ?_) rfl (by kernel_rfl) (by kernel_rfl) (by kernel_rfl) (fun _ _ _ h => h) (Or.inl ⟨by rfl, ?_⟩) (by assumption) ?_
            rotate_left
            · (intro w hSw; (try dsimp only at hSw); go_simp)
              first | done | with_reducible rfl
            try simp only [Act.put, List.getElem_toArray, List.getElem_cons_zero, List.getElem_cons_succ, List.setIfInBounds_toArray, List.set_cons_zero, List.set_cons_succ]
            refine wpAnyH_ready (rs := [8]) (by kernel_rfl) (by simp) ?_
            refine AllReadyH.cons rfl (fun K hK => ?_) AllReadyH.nil
            go_simp
            go_at_call 13
            refine (HSTA.out _ b21).mono ?_
            rintro e w22 ⟨v22, rfl, vs22, b22⟩
            try go_wp2_with fail
            refine hK.out _ _ ?_ (fun hHeld => ?_)
            · exact ⟨(b22.cell (p := ⟨R, 0, none⟩) hlR).trans k0, (b22.cell (p := ⟨R, 1, none⟩) hlR).trans k1, (b22.cell (p := ⟨R, 2, none⟩) hlR).trans k2, (b22.cell (p := ⟨R, 3, none⟩) hlR).trans k3, (b22.cell (p := ⟨Y, 0, none⟩) hlY).trans y0, (b22.cell (p := ⟨Y, 1, none⟩) hlY).trans y1, (b22.cell (p := ⟨Y, 2, none⟩) hlY).trans y2, (b22.cell (p := ⟨Y, 3, none⟩) hlY).trans y3, (b22.cell (p := ⟨Z, 0, none⟩) hlZ).trans z0, (b22.cell (p := ⟨Z, 1, none⟩) hlZ).trans z1, (b22.cell (p := ⟨Z, 2, none⟩) hlZ).trans z2, (b22.cell (p := ⟨Z, 3, none⟩) hlZ).trans z3⟩
            clear hK K
            try simp only [Act.put, List.getElem_toArray, List.getElem_cons_zero, List.getElem_cons_succ, List.setIfInBounds_toArray, List.set_cons_zero, List.set_cons_succ]
            refine wpAnyH_ready (rs := [9]) (by kernel_rfl) (by simp) ?_
            refine AllReadyH.cons rfl (fun K hK => ?_) AllReadyH.nil
            go_simp
            go_at_call 12
            refine (HASA.out _ v22 vs22 b22).mono ?_
            rintro e w23 ⟨rfl, vs23, b23⟩
            try go_wp2_with fail
            refine hK.out _ _ ?_ (fun hHeld => ?_)
            · exact ⟨(b23.cell (p := ⟨R, 0, none⟩) hlR).trans k0, (b23.cell (p := ⟨R, 1, none⟩) hlR).trans k1, (b23.cell (p := ⟨R, 2, none⟩) hlR).trans k2, (b23.cell (p := ⟨R, 3, none⟩) hlR).trans k3, (b23.cell (p := ⟨Y, 0, none⟩) hlY).trans y0, (b23.cell (p := ⟨Y, 1, none⟩) hlY).trans y1, (b23.cell (p := ⟨Y, 2, none⟩) hlY).trans y2, (b23.cell (p := ⟨Y, 3, none⟩) hlY).trans y3, (b23.cell (p := ⟨Z, 0, none⟩) hlZ).trans z0, (b23.cell (p := ⟨Z, 1, none⟩) hlZ).trans z1, (b23.cell (p := ⟨Z, 2, none⟩) hlZ).trans z2, (b23.cell (p := ⟨Z, 3, none⟩) hlZ).trans z3⟩
            clear hK K
            try simp only [Act.put, List.getElem_toArray, List.getElem_cons_zero, List.getElem_cons_succ, List.setIfInBounds_toArray, List.set_cons_zero, List.set_cons_succ]
            refine wpAnyH_ready (rs := [11]) (by kernel_rfl) (by simp) ?_
            refine AllReadyH.cons rfl (fun K hK => ?_) AllReadyH.nil
            go_simp
            go_at_call 15
            refine (HSM2.out _ v22 vs23 b23).mono ?_
            rintro e w24 ⟨rfl, b24⟩
            try go_wp2_with fail
            refine hK.out _ _ ?_ (fun hHeld => ?_)
            · exact ⟨(b24.cell (p := ⟨R, 0, none⟩) hlR).trans k0, (b24.cell (p := ⟨R, 1, none⟩) hlR).trans k1, (b24.cell (p := ⟨R, 2, none⟩) hlR).trans k2, (b24.cell (p := ⟨R, 3, none⟩) hlR).trans k3, (b24.cell (p := ⟨Y, 0, none⟩) hlY).trans y0, (b24.cell (p := ⟨Y, 1, none⟩) hlY).trans y1, (b24.cell (p := ⟨Y, 2, none⟩) hlY).trans y2, (b24.cell (p := ⟨Y, 3, none⟩) hlY).trans y3, (b24.cell (p := ⟨Z, 0, none⟩) hlZ).trans z0, (b24.cell (p := ⟨Z, 1, none⟩) hlZ).trans z1, (b24.cell (p := ⟨Z, 2, none⟩) hlZ).trans z2, (b24.cell (p := ⟨Z, 3, none⟩) hlZ).trans z3⟩
            clear hK K
            try simp only [Act.put, List.getElem_toArray, List.getElem_cons_zero, List.getElem_cons_succ, List.setIfInBounds_toArray, List.set_cons_zero, List.set_cons_succ]
            refine wpAnyH_take (i := 12) (v := ?_) rfl (by kernel_rfl) (by kernel_rfl) (by kernel_rfl) (fun _ _ _ h => h) (Or.inl ⟨by rfl, ?_⟩) (by assumption) ?_
            rotate_left
            · (intro w hSw; (try dsimp only at hSw); go_simp)
              first | done | with_reducible rfl
            try simp only [Act.put, List.getElem_toArray, List.getElem_cons_zero, List.getElem_cons_succ, List.setIfInBounds_toArray, List.set_cons_zero, List.set_cons_succ]
            refine wpAnyH_take (i := 13) rfl (by kernel_rfl) (by kernel_rfl) (by kernel_rfl) (fun _ _ _ h => h) (Or.inr ⟨by rfl, rfl⟩) (by assumption) ?_
            try simp only [Act.put, List.getElem_toArray, List.getElem_cons_zero, List.getElem_cons_succ, List.setIfInBounds_toArray, List.set_cons_zero, List.set_cons_succ]
            refine wpAnyH_take (i := 14) rfl (by kernel_rfl) (by kernel_rfl) (by kernel_rfl) (fun _ _ _ h => h) (Or.inr ⟨by rfl, rfl⟩) (by assumption) ?_
            try simp only [Act.put, List.getElem_toArray, List.getElem_cons_zero, List.getElem_cons_succ, List.setIfInBounds_toArray, List.set_cons_zero, List.set_cons_succ]
            refine wpAnyH_take (i := 15) rfl (by kernel_rfl) (by kernel_rfl) (by kernel_rfl) (fun _ _ _ h => h) (Or.inr ⟨by rfl, rfl⟩) (by assumption) ?_
            try simp only [Act.put, List.getElem_toArray, List.getElem_cons_zero, List.getElem_cons_succ, List.setIfInBounds_toArray, List.set_cons_zero, List.set_cons_succ]
            refine wpAnyH_take (i := 16) rfl (by kernel_rfl) (by kernel_rfl) (by kernel_rfl) (fun _ _ _ h => h) (Or.inr ⟨by rfl, rfl⟩) (by assumption) ?_
            try simp only [Act.put, List.getElem_toArray, List.getElem_cons_zero, List.getElem_cons_succ, List.setIfInBounds_toArray, List.set_cons_zero, List.set_cons_succ]
            refine wpAnyH_take (i := 17) rfl (by kernel_rfl) (by kernel_rfl) (by kernel_rfl) (fun _ _ _ h => h) (Or.inr ⟨by rfl, rfl⟩) (by assumption) ?_
            try simp only [Act.put, List.getElem_toArray, List.getElem_cons_zero, List.getElem_cons_succ, List.setIfInBounds_toArray, List.set_cons_zero, List.set_cons_succ]
            refine wpAnyH_take (i := 18) (v := ?_) rfl (by kernel_rfl) (by kernel_rfl) (by kernel_rfl) (fun _ _ _ h => h) (Or.inl ⟨by rfl, ?_⟩) (by assumption) ?_
            rotate_left
            · (intro w hSw; (try dsimp only at hSw); go_simp)
              first | done | with_reducible rfl
            try simp only [Act.put, List.getElem_toArray, List.getElem_cons_zero, List.getElem_cons_succ, List.setIfInBounds_toArray, List.set_cons_zero, List.set_cons_succ]
            refine wpAnyH_take (i := 19) (v := ?_) rfl (by kernel_rfl) (by kernel_rfl) (by kernel_rfl) (fun _ _ _ h => h) (Or.inl ⟨by rfl, ?_⟩) (by assumption) ?_
            rotate_left
            · (intro w hSw; (try dsimp only at hSw); go_simp)
              first | done | with_reducible rfl
            try simp only [Act.put, List.getElem_toArray, List.getElem_cons_zero, List.getElem_cons_succ, List.setIfInBounds_toArray, List.set_cons_zero, List.set_cons_succ]
            refine wpAnyH_take (i := 20) (v := ?_) rfl (by kernel_rfl) (by kernel_rfl) (by kernel_rfl) (fun _ _ _ h => h) (Or.inl ⟨by rfl, ?_⟩) (by assumption) ?_
            rotate_left
            · (intro w hSw; (try dsimp only at hSw); go_simp)
              first | done | with_reducible rfl
            try simp only [Act.put, List.getElem_toArray, List.getElem_cons_zero, List.getElem_cons_succ, List.setIfInBounds_toArray, List.set_cons_zero, List.set_cons_succ]
            refine wpAnyH_done (by kernel_rfl) ?_ _
            have BF := Lib.hid (BEL12.out.trans (b24.mono BEL12.out.size))
            clear vs22 vs23 b21 b22 b23 b24 bdr
            go_wp2
            go_ret
            exact ⟨rfl, BF.out⟩
          · have hs2s : s2 = s' := by
              rcases hs2c with h | ⟨_, h⟩
              · exact absurd h hss
              · rw [hts] at h; exact (Option.some.inj h).symm
            rw [hs2s] at so12 HZ7 hss
            have hsb : sameB s' s = false := by
              cases h : sameB s' s
              · rfl
              · exact absurd ((sameB_iff _ _).1 h) hss
            clear hss hs2c hs2s
            have HSTA := Lib.hid (state_at so12.st HZ7.out)
            have HASA := Lib.hid (fun Wq v hv hq => as_at (w7 := w12) (s := s') Wq v hv hq)
            have HSM1 := Lib.hid (fun Wq hq => same_at (w7 := w12) hsz hsz vs812 Wq v3 (vs312.below hq) hq)
            have HSM2 := Lib.hid (fun Wq v hv hq => same_at (w7 := w12) HZ7.out hsz vs812 Wq v hv hq)
            have HSM3 := Lib.hid (fun Wq v hv hq => same_at (w7 := w12) HZ7.out hsz' vs1112 Wq v hv hq)
            rw [sameB_self] at HSM1 HSM3
            rw [hsb] at HSM2
            clear hsb
            clear so12 vs312 vs812 vs1112 HZ7
            first | (go_region_held3 (fun w' => w'.cell? ⟨R, 0, none⟩ = some (.string s.room) ∧ w'.cell? ⟨R, 1, none⟩ = some (.slice v3.a1 s.events.length v3.c1) ∧ w'.cell? ⟨R, 2, none⟩ = some (.int .i64 (s.used : Int)) ∧ w'.cell? ⟨R, 3, none⟩ = some (.slice v3.a2 s.queue.length v3.c2) ∧ w'.cell? ⟨Y, 0, none⟩ = some (.string s.room) ∧ w'.cell? ⟨Y, 1, none⟩ = some (.slice v8.a1 s.events.length v8.c1) ∧ w'.cell? ⟨Y, 2, none⟩ = some (.int .i64 (s.used : Int)) ∧ w'.cell? ⟨Y, 3, none⟩ = some (.slice v8.a2 s.queue.length v8.c2) ∧ w'.cell? ⟨Z, 0, none⟩ = some (.string s'.room) ∧ w'.cell? ⟨Z, 1, none⟩ = some (.slice v11.a1 s'.events.length v11.c1) ∧ w'.cell? ⟨Z, 2, none⟩ = some (.int .i64 (s'.used : Int)) ∧ w'.cell? ⟨Z, 3, none⟩ = some (.slice v11.a2 s'.queue.length v11.c2))
              (first | with_reducible exact ⟨(b27.cell (p := ⟨R, 0, none⟩) hlR).trans k0, (b27.cell (p := ⟨R, 1, none⟩) hlR).trans k1, (b27.cell (p := ⟨R, 2, none⟩) hlR).trans k2, (b27.cell (p := ⟨R, 3, none⟩) hlR).trans k3, (b27.cell (p := ⟨Y, 0, none⟩) hlY).trans y0, (b27.cell (p := ⟨Y, 1, none⟩) hlY).trans y1, (b27.cell (p := ⟨Y, 2, none⟩) hlY).trans y2, (b27.cell (p := ⟨Y, 3, none⟩) hlY).trans y3, (b27.cell (p := ⟨Z, 0, none⟩) hlZ).trans z0, (b27.cell (p := ⟨Z, 1, none⟩) hlZ).trans z1, (b27.cell (p := ⟨Z, 2, none⟩) hlZ).trans z2, (b27.cell (p := ⟨Z, 3, none⟩) hlZ).trans z3⟩ | with_reducible exact (b27.cell (p := ⟨R, 0, none⟩) hlR).trans k0 | with_reducible exact (b27.cell (p := ⟨R, 1, none⟩) hlR).trans k1 | with_reducible exact (b27.cell (p := ⟨R, 2, none⟩) hlR).trans k2 | with_reducible exact (b27.cell (p := ⟨R, 3, none⟩) hlR).trans k3 | with_reducible exact (b27.cell (p := ⟨Y, 0, none⟩) hlY).trans y0 | with_reducible exact (b27.cell (p := ⟨Y, 1, none⟩) hlY).trans y1 | with_reducible exact (b27.cell (p := ⟨Y, 2, none⟩) hlY).trans y2 | with_reducible exact (b27.cell (p := ⟨Y, 3, none⟩) hlY).trans y3 | with_reducible exact (b27.cell (p := ⟨Z, 0, none⟩) hlZ).trans z0 | with_reducible exact (b27.cell (p := ⟨Z, 1, none⟩) hlZ).trans z1 | with_reducible exact (b27.cell (p := ⟨Z, 2, none⟩) hlZ).trans z2 | with_reducible exact (b27.cell (p := ⟨Z, 3, none⟩) hlZ).trans z3 | with_reducible exact ⟨(b26.cell (p := ⟨R, 0, none⟩) hlR).trans k0, (b26.cell (p := ⟨R, 1, none⟩) hlR).trans k1, (b26.cell (p := ⟨R, 2, none⟩) hlR).trans k2, (b26.cell (p := ⟨R, 3, none⟩) hlR).trans k3, (b26.cell (p := ⟨Y, 0, none⟩) hlY).trans y0, (b26.cell (p := ⟨Y, 1, none⟩) hlY).trans y1, (b26.cell (p := ⟨Y, 2, none⟩) hlY).trans y2, (b26.cell (p := ⟨Y, 3, none⟩) hlY).trans y3, (b26.cell (p := ⟨Z, 0, none⟩) hlZ).trans z0, (b26.cell (p := ⟨Z, 1, none⟩) hlZ).trans z1, (b26.cell (p := ⟨Z, 2, none⟩) hlZ).trans z2, (b26.cell (p := ⟨Z, 3, none⟩) hlZ).trans z3⟩ | with_reducible exact (b26.cell (p := ⟨R, 0, none⟩) hlR).trans k0 | with_reducible exact (b26.cell (p := ⟨R, 1, none⟩) hlR).trans k1 | with_reducible exact (b26.cell (p := ⟨R, 2, none⟩) hlR).trans k2 | with_reducible exact (b26.cell (p := ⟨R, 3, none⟩) hlR).trans k3 | with_reducible exact (b26.cell (p := ⟨Y, 0, none⟩) hlY).trans y0 | with_reducible exact (b26.cell (p := ⟨Y, 1, none⟩) hlY).trans y1 | with_reducible exact (b26.cell (p := ⟨Y, 2, none⟩) hlY).trans y2 | with_reducible exact (b26.cell (p := ⟨Y, 3, none⟩) hlY).trans y3 | with_reducible exact (b26.cell (p := ⟨Z, 0, none⟩) hlZ).trans z0 | with_reducible exact (b26.cell (p := ⟨Z, 1, none⟩) hlZ).trans z1 | with_reducible exact (b26.cell (p := ⟨Z, 2, none⟩) hlZ).trans z2 | with_reducible exact (b26.cell (p := ⟨Z, 3, none⟩) hlZ).trans z3 | with_reducible exact ⟨(b25.cell (p := ⟨R, 0, none⟩) hlR).trans k0, (b25.cell (p := ⟨R, 1, none⟩) hlR).trans k1, (b25.cell (p := ⟨R, 2, none⟩) hlR).trans k2, (b25.cell (p := ⟨R, 3, none⟩) hlR).trans k3, (b25.cell (p := ⟨Y, 0, none⟩) hlY).trans y0, (b25.cell (p := ⟨Y, 1, none⟩) hlY).trans y1, (b25.cell (p := ⟨Y, 2, none⟩) hlY).trans y2, (b25.cell (p := ⟨Y, 3, none⟩) hlY).trans y3, (b25.cell (p := ⟨Z, 0, none⟩) hlZ).trans z0, (b25.cell (p := ⟨Z, 1, none⟩) hlZ).trans z1, (b25.cell (p := ⟨Z, 2, none⟩) hlZ).trans z2, (b25.cell (p := ⟨Z, 3, none⟩) hlZ).trans z3⟩ | with_reducible exact (b25.cell (p := ⟨R, 0, none⟩) hlR).trans k0 | with_reducible exact (b25.cell (p := ⟨R, 1, none⟩) hlR).trans k1 | with_reducible exact (b25.cell (p := ⟨R, 2, none⟩) hlR).trans k2 | with_reducible exact (b25.cell (p := ⟨R, 3, none⟩) hlR).trans k3 | with_reducible exact (b25.cell (p := ⟨Y, 0, none⟩) hlY).trans y0 | with_reducible exact (b25.cell (p := ⟨Y, 1, none⟩) hlY).trans y1 | with_reducible exact (b25.cell (p := ⟨Y, 2, none⟩) hlY).trans y2 | with_reducible exact (b25.cell (p := ⟨Y, 3, none⟩) hlY).trans y3 | with_reducible exact (b25.cell (p := ⟨Z, 0, none⟩) hlZ).trans z0 | with_reducible exact (b25.cell (p := ⟨Z, 1, none⟩) hlZ).trans z1 | with_reducible exact (b25.cell (p := ⟨Z, 2, none⟩) hlZ).trans z2 | with_reducible exact (b25.cell (p := ⟨Z, 3, none⟩) hlZ).trans z3 | with_reducible exact ⟨(b24.cell (p := ⟨R, 0, none⟩) hlR).trans k0, (b24.cell (p := ⟨R, 1, none⟩) hlR).trans k1, (b24.cell (p := ⟨R, 2, none⟩) hlR).trans k2, (b24.cell (p := ⟨R, 3, none⟩) hlR).trans k3, (b24.cell (p := ⟨Y, 0, none⟩) hlY).trans y0, (b24.cell (p := ⟨Y, 1, none⟩) hlY).trans y1, (b24.cell (p := ⟨Y, 2, none⟩) hlY).trans y2, (b24.cell (p := ⟨Y, 3, none⟩) hlY).trans y3, (b24.cell (p := ⟨Z, 0, none⟩) hlZ).trans z0, (b24.cell (p := ⟨Z, 1, none⟩) hlZ).trans z1, (b24.cell (p := ⟨Z, 2, none⟩) hlZ).trans z2, (b24.cell (p := ⟨Z, 3, none⟩) hlZ).trans z3⟩ | with_reducible exact (b24.cell (p := ⟨R, 0, none⟩) hlR).trans k0 | with_reducible exact (b24.cell (p := ⟨R, 1, none⟩) hlR).trans k1 | with_reducible exact (b24.cell (p := ⟨R, 2, none⟩) hlR).trans k2 | with_reducible exact (b24.cell (p := ⟨R, 3, none⟩) hlR).trans k3 | with_reducible exact (b24.cell (p := ⟨Y, 0, none⟩) hlY).trans y0 | with_reducible exact (b24.cell (p := ⟨Y, 1, none⟩) hlY).trans y1 | with_reducible exact (b24.cell (p := ⟨Y, 2, none⟩) hlY).trans y2 | with_reducible exact (b24.cell (p := ⟨Y, 3, none⟩) hlY).trans y3 | with_reducible exact (b24.cell (p := ⟨Z, 0, none⟩) hlZ).trans z0 | with_reducible exact (b24.cell (p := ⟨Z, 1, none⟩) hlZ).trans z1 | with_reducible exact (b24.cell (p := ⟨Z, 2, none⟩) hlZ).trans z2 | with_reducible exact (b24.cell (p := ⟨Z, 3, none⟩) hlZ).trans z3 | with_reducible exact ⟨(b23.cell (p := ⟨R, 0, none⟩) hlR).trans k0, (b23.cell (p := ⟨R, 1, none⟩) hlR).trans k1, (b23.cell (p := ⟨R, 2, none⟩) hlR).trans k2, (b23.cell (p := ⟨R, 3, none⟩) hlR).trans k3, (b23.cell (p := ⟨Y, 0, none⟩) hlY).trans y0, (b23.cell (p := ⟨Y, 1, none⟩) hlY).trans y1, (b23.cell (p := ⟨Y, 2, none⟩) hlY).trans y2, (b23.cell (p := ⟨Y, 3, none⟩) hlY).trans y3, (b23.cell (p := ⟨Z, 0, none⟩) hlZ).trans z0, (b23.cell (p := ⟨Z, 1, none⟩) hlZ).trans z1, (b23.cell (p := ⟨Z, 2, none⟩) hlZ).trans z2, (b23.cell (p := ⟨Z, 3, none⟩) hlZ).trans z3⟩ | with_reducible exact (b23.cell (p := ⟨R, 0, none⟩) hlR).trans k0 | with_reducible exact (b23.cell (p := ⟨R, 1, none⟩) hlR).trans k1 | with_reducible exact (b23.cell (p := ⟨R, 2, none⟩) hlR).trans k2 | with_reducible exact (b23.cell (p := ⟨R, 3, none⟩) hlR).trans k3 | with_reducible exact (b23.cell (p := ⟨Y, 0, none⟩) hlY).trans y0 | with_reducible exact (b23.cell (p := ⟨Y, 1, none⟩) hlY).trans y1 | with_reducible exact (b23.cell (p := ⟨Y, 2, none⟩) hlY).trans y2 | with_reducible exact (b23.cell (p := ⟨Y, 3, none⟩) hlY).trans y3 | with_reducible exact (b23.cell (p := ⟨Z, 0, none⟩) hlZ).trans z0 | with_reducible exact (b23.cell (p := ⟨Z, 1, none⟩) hlZ).trans z1 | with_reducible exact (b23.cell (p := ⟨Z, 2, none⟩) hlZ).trans z2 | with_reducible exact (b23.cell (p := ⟨Z, 3, none⟩) hlZ).trans z3 | with_reducible exact ⟨(b22.cell (p := ⟨R, 0, none⟩) hlR).trans k0, (b22.cell (p := ⟨R, 1, none⟩) hlR).trans k1, (b22.cell (p := ⟨R, 2, none⟩) hlR).trans k2, (b22.cell (p := ⟨R, 3, none⟩) hlR).trans k3, (b22.cell (p := ⟨Y, 0, none⟩) hlY).trans y0, (b22.cell (p := ⟨Y, 1, none⟩) hlY).trans y1, (b22.cell (p := ⟨Y, 2, none⟩) hlY).trans y2, (b22.cell (p := ⟨Y, 3, none⟩) hlY).trans y3, (b22.cell (p := ⟨Z, 0, none⟩) hlZ).trans z0, (b22.cell (p := ⟨Z, 1, none⟩) hlZ).trans z1, (b22.cell (p := ⟨Z, 2, none⟩) hlZ).trans z2, (b22.cell (p := ⟨Z, 3, none⟩) hlZ).trans z3⟩ | with_reducible exact (b22.cell (p := ⟨R, 0, none⟩) hlR).trans k0 | with_reducible exact (b22.cell (p := ⟨R, 1, none⟩) hlR).trans k1 | with_reducible exact (b22.cell (p := ⟨R, 2, none⟩) hlR).trans k2 | with_reducible exact (b22.cell (p := ⟨R, 3, none⟩) hlR).trans k3 | with_reducible exact (b22.cell (p := ⟨Y, 0, none⟩) hlY).trans y0 | with_reducible exact (b22.cell (p := ⟨Y, 1, none⟩) hlY).trans y1 | with_reducible exact (b22.cell (p := ⟨Y, 2, none⟩) hlY).trans y2 | with_reducible exact (b22.cell (p := ⟨Y, 3, none⟩) hlY).trans y3 | with_reducible exact (b22.cell (p := ⟨Z, 0, none⟩) hlZ).trans z0 | with_reducible exact (b22.cell (p := ⟨Z, 1, none⟩) hlZ).trans z1 | with_reducible exact (b22.cell (p := ⟨Z, 2, none⟩) hlZ).trans z2 | with_reducible exact (b22.cell (p := ⟨Z, 3, none⟩) hlZ).trans z3 | with_reducible exact ⟨(b21.cell (p := ⟨R, 0, none⟩) hlR).trans k0, (b21.cell (p := ⟨R, 1, none⟩) hlR).trans k1, (b21.cell (p := ⟨R, 2, none⟩) hlR).trans k2, (b21.cell (p := ⟨R, 3, none⟩) hlR).trans k3, (b21.cell (p := ⟨Y, 0, none⟩) hlY).trans y0, (b21.cell (p := ⟨Y, 1, none⟩) hlY).trans y1, (b21.cell (p := ⟨Y, 2, none⟩) hlY).trans y2, (b21.cell (p := ⟨Y, 3, none⟩) hlY).trans y3, (b21.cell (p := ⟨Z, 0, none⟩) hlZ).trans z0, (b21.cell (p := ⟨Z, 1, none⟩) hlZ).trans z1, (b21.cell (p := ⟨Z, 2, none⟩) hlZ).trans z2, (b21.cell (p := ⟨Z, 3, none⟩) hlZ).trans z3⟩ | with_reducible exact (b21.cell (p := ⟨R, 0, none⟩) hlR).trans k0 | with_reducible exact (b21.cell (p := ⟨R, 1, none⟩) hlR).trans k1 | with_reducible exact (b21.cell (p := ⟨R, 2, none⟩) hlR).trans k2 | with_reducible exact (b21.cell (p := ⟨R, 3, none⟩) hlR).trans k3 | with_reducible exact (b21.cell (p := ⟨Y, 0, none⟩) hlY).trans y0 | with_reducible exact (b21.cell (p := ⟨Y, 1, none⟩) hlY).trans y1 | with_reducible exact (b21.cell (p := ⟨Y, 2, none⟩) hlY).trans y2 | with_reducible exact (b21.cell (p := ⟨Y, 3, none⟩) hlY).trans y3 | with_reducible exact (b21.cell (p := ⟨Z, 0, none⟩) hlZ).trans z0 | with_reducible exact (b21.cell (p := ⟨Z, 1, none⟩) hlZ).trans z1 | with_reducible exact (b21.cell (p := ⟨Z, 2, none⟩) hlZ).trans z2 | with_reducible exact (b21.cell (p := ⟨Z, 3, none⟩) hlZ).trans z3 | with_reducible exact ⟨kkk0, kkk1, kkk2, kkk3, kky0, kky1, kky2, kky3, kkz0, kkz1, kkz2, kkz3⟩ | with_reducible exact kkk0 | with_reducible exact kkk1 | with_reducible exact kkk2 | with_reducible exact kkk3 | with_reducible exact kky0 | with_reducible exact kky1 | with_reducible exact kky2 | with_reducible exact kky3 | with_reducible exact kkz0 | with_reducible exact kkz1 | with_reducible exact kkz2 | with_reducible exact kkz3 | fail)
              (first
                | (go_at_call 13; refine (HSTA.out _ b24).mono ?_; rintro e w25 ⟨v25, rfl, vs25, b25⟩)
                | (go_at_call 13; refine (HSTA.out _ b21).mono ?_; rintro e w22 ⟨v22, rfl, vs22, b22⟩)
                | (go_at_call 12; refine (HASA.out _ v25 vs25 b25).mono ?_; rintro e w26 ⟨rfl, vs26, b26⟩)
                | (go_at_call 12; refine (HASA.out _ v22 vs22 b22).mono ?_; rintro e w23 ⟨rfl, vs23, b23⟩)
                | (go_at_call 15; refine (HSM3.out _ v25 vs26 b26).mono ?_; rintro e w27 ⟨rfl, b27⟩)
                | (go_at_call 15; refine (HSM2.out _ v22 vs23 b23).mono ?_; rintro e w24 ⟨rfl, b24⟩)
                | (go_at_call 15; refine (HSM1.out _ (by first | exact bdr)).mono ?_; rintro e w21 ⟨rfl, b21⟩))) | fail
            have BF := Lib.hid (BEL12.out.trans (b27.mono BEL12.out.size))
            clear vs22 vs23 vs25 vs26 b21 b22 b23 b24 b25 b26 b27 bdr
            go_wp2
            go_ret
            exact ⟨rfl, BF.out⟩
        ·
          have hsz : SzS s 1000000 := HP.out.sz.up (by omega)
          go_wp2_with fail
          refine (state_any HP.out.so.st hsz).mono ?_
          rintro e w3 ⟨v1, v2, rfl, q1, q2, ap, b3⟩
          obtain ⟨a1, c1, rfl, n1, m1, r1⟩ := q1.form
          obtain ⟨a2, c2, rfl, n2, m2, r2⟩ := q2.form
          have hz3 := b3.size
          go_wp2_with fail
          refine (as_any w3 s ⟨a1, c1, a2, c2⟩).mono ?_
          rintro e w4 ⟨rfl, b4⟩
          have hz4 := b4.size
          obtain ⟨v3, hv3⟩ : ∃ v : Vs, v = ⟨a1, c1, a2, c2⟩ := ⟨_, rfl⟩
          have vs4 : VsAt w4 s v3 := by rw [hv3]; exact (VsAt.below (w := w3) ⟨r1, r2, n1, n2⟩ b4)
          have f1 : ∀ g, (Value.slice v3.a1 s.events.length v3.c1).ownBlock = some g → wr.heap.size ≤ g := fun g hg => by rw [hv3] at hg; exact (q1.lt hg).2.1
          have f2 : ∀ g, (Value.slice v3.a2 s.queue.length v3.c2).ownBlock = some g → wr.heap.size ≤ g := fun g hg => by rw [hv3] at hg; exact (q2.lt hg).2.1
          rw [← hv3]
          clear hv3 r1 r2
          obtain ⟨w5, hw5⟩ : ∃ W, W = w4.alloc (.cells #[.string s.room, .slice v3.a1 s.events.length v3.c1, .int .i64 (s.used : Int), .slice v3.a2 s.queue.length v3.c2] 36) := ⟨_, rfl⟩
          have b45 : Below w4.heap.size w4 w5 := by rw [hw5]; exact (Below.refl _ _).alloc (Nat.le_refl _) _
          have b5 : Below wr.heap.size wr w5 := b3.trans ((b4.trans (b45.mono hz4)).mono hz3)
          have hz5 := b45.size
          have HP5 := Lib.hid (HP.out.below b5)
          have HV5 := Lib.hid (vs4.below b45)
          have HR5 := Lib.hid (show Blk w5 w4.heap.size 36 [.string s.room, .slice v3.a1 s.events.length v3.c1, .int .i64 (s.used : Int), .slice v3.a2 s.queue.length v3.c2] by rw [hw5]; exact Blk.new w4 _ _)
          have hfoot : ∀ g, Foot w1.heap.size d.files L g → g < wr.heap.size := fun g hg => HP.out.so.lt (.inr (.inr hg))
          have hrow : ∀ g, (Value.slice ra fl.length rc).ownBlock = some g → g < wr.heap.size ∧ ¬ Foot w1.heap.size d.files L g := fun g hg => ⟨(HP.out.row.lt hg).1, fun hf => HP.out.apart g hg (.inr (.inr hf))⟩
          obtain ⟨R, hR⟩ : ∃ R, R = w4.heap.size := ⟨_, rfl⟩
          have hRw : wr.heap.size ≤ R := by omega
          have BR5 := Lib.hid (B1.out.trans (HP5.out.bel.mono B1.out.size))
          have hk5 : IntRow w5 ka keep := by
            rcases HK.out with h0 | ⟨b, off, e, h1, h2⟩
            · exact .inl h0
            · exact .inr ⟨b, off, e, Nat.lt_of_lt_of_le h1 BR5.out.size, fun i hi => (BR5.out.cell (p := ⟨b, off + i, none⟩) h1).trans (h2 i hi)⟩
          have hkf : ∀ b off, keep ≠ [] → ka = some ⟨b, off, none⟩ → ¬ Foot w1.heap.size d.files L b := by
            intro b off hne e hf
            rcases HK.out with h0 | ⟨b', off', e', h1, _⟩
            · exact hne h0
            · rw [e] at e'; cases e'
              have := HP5.out.so.dk.foot_base hf
              have := B1.out.size
              omega
          have HCR := Lib.hid (crash_any HP5.out.so.dk (by have := HP5.out.len; omega) keep ka kc hk5 hkf HKO.out.1 HKO.out.2)
          have HFX := Lib.hid (And.intro hfoot (And.intro hrow (And.intro f1 f2)))
          have HRES := Lib.hid (And.intro hRw (And.intro hz3 (And.intro hz4 hz5)))
          have HU := Lib.hid (fun (b : Bool) (e : b = true) (hb : b = true) => HP.out.und (e ▸ hb))
          clear q1 q2 ap b3 b4 b45 b5 vs4 f1 f2 hk5 hkf hfoot hrow HP HOF hrr0 n1 n2 m1 m2 hz3 hz4 hz5
          unfold vsV
          go_wp2_with fail
          rw [← hw5]
          rw [← hR] at HR5 ⊢
          clear hw5 hR
          refine HCR.out.mono ?_
          rintro e w6 ⟨rfl, wn⟩
          obtain ⟨L1, dk6, kp6, bl6, hft6, hthen⟩ := crash_keep HP5.out.so.dk wn
          obtain ⟨gs2, tl, sg, hcase⟩ := HP5.out.crash keep
          have hlen2 : gs2.flatten.length ≤ 1000000 := by
            rcases hcase with h | ⟨_, h⟩
            · rw [h, HFL.out]; omega
            · rw [h, HFL.out, List.length_append]; simp; omega
          obtain ⟨s2, hs2, hs2c⟩ : ∃ s2, ofR ss0 gs2.flatten = some s2 ∧ (s2 = s ∨ (true = true ∧ takeR s u = some s2)) := by
            rcases hcase with h | ⟨hb, h⟩
            · exact ⟨s, by rw [h, HFL.out]; exact HOS.out, .inl rfl⟩
            · obtain ⟨_, _, s', ht⟩ := HU.out true rfl hb
              exact ⟨s', by rw [h, HFL.out, ofR_snoc, HOS.out]; exact ht, .inr ⟨hb, ht⟩⟩
          have HOP := Lib.hid (open_so dk6 rfl rfl sg hlen2)
          have HTH := Lib.hid (And.intro (fun w2 ho => hthen _ w2 (fun g h => h) ho) hs2)
          clear HCR wn dk6 kp6 bl6 hthen sg hcase hs2 HK
          go_wp2_with fail
          refine HOP.out.mono ?_
          rintro e w7 ⟨h1, _⟩
          obtain ⟨B7, Lb7, L7, ev7, q7, rfl, so7, sz7, o7, f7⟩ := h1 s2 HTH.out.2
          obtain ⟨kp7, bl7⟩ := HTH.out.1 w7 o7
          have hz7 : SzS s2 1000000 := sz7.up hlen2
          have q9 : QR w7 9 w1.heap.size (.slice ra fl.length rc) fl := by
            have := HP5.out.row
            rw [HFL.out] at this
            exact this.keep (fun g hg => kp7 g (this.lt hg).1 (HFX.out.2.1 g hg).2)
          have hwr5 : wr.heap.size ≤ w5.heap.size := by have := HRES.out; omega
          have vs7 : VsAt w7 s v3 := HV5.out.keep (fun g hl hg => kp7 g hl (fun hf => by have := HFX.out.1 g hf; have := HFX.out.2.2.1 g hg; omega)) (fun g hl hg => kp7 g hl (fun hf => by have := HFX.out.1 g hf; have := HFX.out.2.2.2 g hg; omega))
          have hR7 : Blk w7 R 36 [.string s.room, .slice v3.a1 s.events.length v3.c1, .int .i64 (s.used : Int), .slice v3.a2 s.queue.length v3.c2] := (kp7 R HR5.out.lt (fun hf => by have := HFX.out.1 R hf; have := HRES.out.1; omega)).trans HR5.out
          obtain ⟨_, _, ht0, _, _, hrt⟩ := q9.form
          cases ht0
          have HOF7 := Lib.hid (of_any w7 ra rc fl hrt (by omega) (fun y hy => by have := HFS.out y hy; omega))
          have H7 := Lib.hid (And.intro so7 (And.intro vs7 (And.intro hR7 (And.intro q9 (And.intro bl7 hz7)))))
          have hfar7 : (∀ g, (Value.slice ra fl.length rc).ownBlock = some g → g < wr.heap.size) ∧ (∀ g, (Value.slice v3.a1 s.events.length v3.c1).ownBlock = some g → wr.heap.size ≤ g) ∧ (∀ g, (Value.slice v3.a2 s.queue.length v3.c2).ownBlock = some g → wr.heap.size ≤ g) ∧ wr.heap.size ≤ w7.heap.size := ⟨fun g hg => (HFX.out.2.1 g hg).1, HFX.out.2.2.1, HFX.out.2.2.2, by have := hR7.lt; have := HRES.out.1; omega⟩
          have HFR := Lib.hid hfar7
          have hR7l := hR7.lt
          have hsoF : ∀ g, (Value.slice ra fl.length rc).ownBlock = some g → ¬ SoF B7 Lb7 w1.heap.size (openD (crashD d keep) gs2 tl) L7 ev7 q7 g := by
            intro g hg hs
            have h9 := HFX.out.2.1 g hg
            have h8 := HRES.out
            rcases f7 g hs with h | h
            · rcases hft6.1 g h with h | h
              · exact h9.2 h
              · omega
            · have := hft6.2; omega
          have HSF := Lib.hid hsoF
          clear hsoF f7 hft6
          clear h1 so7 sz7 o7 kp7 bl7 q9 vs7 hR7 hrt HOP HTH HP5 HV5 HR5 hz7 hfar7
          go_wp2_with fail
          refine HOF7.out.mono ?_
          rintro e w8 ⟨b8, h8, _⟩
          obtain ⟨_, v8, rfl, vs8, va8, vb8⟩ := h8 s HOS.out
          obtain ⟨so7, vs7, hR7, q9, bl7, hz7⟩ := H7.out
          obtain ⟨w9, hw9⟩ : ∃ W, W = w8.alloc (.cells #[.string s.room, .slice v8.a1 s.events.length v8.c1, .int .i64 (s.used : Int), .slice v8.a2 s.queue.length v8.c2] 36) := ⟨_, rfl⟩
          have b89 : Below w8.heap.size w8 w9 := by rw [hw9]; exact (Below.refl _ _).alloc (Nat.le_refl _) _
          have b79 : Below w7.heap.size w7 w9 := b8.trans (b89.mono b8.size)
          have hY9 : Blk w9 w8.heap.size 36 [.string s.room, .slice v8.a1 s.events.length v8.c1, .int .i64 (s.used : Int), .slice v8.a2 s.queue.length v8.c2] := by rw [hw9]; exact Blk.new w8 _ _
          obtain ⟨Y, hY⟩ : ∃ Y, Y = w8.heap.size := ⟨_, rfl⟩
          have hRY : R < Y := by have := hR7.lt; have := b8.size; omega
          have H9 := Lib.hid (And.intro (so7.below b79 (Nat.le_refl _)) (And.intro (vs7.below b79) (And.intro (vs8.below b89) (And.intro (hR7.below b79 hR7.lt) (And.intro (q9.below b79 (Nat.le_refl _)) (BR5.out.trans ((bl7.mono B1.out.size).trans (b79.mono (by have := BR5.out.size; have := bl7.size; omega)))))))))
          have HZ7 := Lib.hid hz7
          clear b8 h8 vs8 so7 vs7 hR7 q9 bl7 hz7 b89 b79 H7 HOF7
          rw [← hY] at hY9
          obtain ⟨so9, vs3, vs8, hR9, q9, bel9⟩ := H9.out
          have hz9 : w9.heap.size = w8.heap.size + 1 := by rw [hw9]; simp
          have QA := Lib.hid (q9.below (w' := w9.alloc (.cells #[.string u] 9)) ((Below.refl _ _).alloc (Nat.le_refl _) _) (Nat.le_refl _))
          have hone := one_new w9 9 u
          rw [hz9] at hone
          have HN1 := Lib.hid hone
          have hb9 : w1.heap.size ≤ w9.heap.size := by have := so9.dk.dbase; have := so9.dk.blk.lt; omega
          have HB2 := Lib.hid (show w1.heap.size ≤ (w9.alloc (.cells #[.string u] 9)).heap.size by simp; omega)
          have HL2 := Lib.hid (show fl.length ≤ 1000000000 by omega)
          have H9Y := Lib.hid hY9
          have HVA := Lib.hid (And.intro va8 vb8)
          rw [hw9] at QA HN1 HB2
          clear so9 vs3 vs8 hR9 q9 bel9 hone hY9 va8 vb8
          unfold vsV
          go_wp2_with (at_builtin; refine wpList_append_q _ rfl _ _ 34 rfl w1.heap.size 9 i0 Tryz.underlying34 HI.out HZ0.out HZ1.out HZ2.out _ fl rfl QA.out ⟨w8.heap.size + 1, 0, none⟩ 1 u rfl HN1.out HL2.out HB2.out ?_)
          intro v10 w10 q10 g10 a10
          rw [← hw9] at g10
          rw [← hY]
          clear QA HN1 HB2 HL2 hw9 hY a10
          obtain ⟨xa, xc, rfl, _, _, hrt10⟩ := q10.form
          obtain ⟨so9, vs3, vs8, hR9, q9, bel9⟩ := H9.out
          have hY9 := H9Y.out
          have hsz10 : w9.heap.size ≤ w10.heap.size := by have := g10.size; simp at this; omega
          have hk10 : ∀ g, g < w9.heap.size → (Value.slice ra fl.length rc).ownBlock ≠ some g → w10.heap[g]? = w9.heap[g]? := fun g hl hne => (g10.block g (by simp; omega) (fun e => hne e.symm)).trans (heap_alloc_old w9 _ hl)
          have hfar : ∀ g, wr.heap.size ≤ g → (Value.slice ra fl.length rc).ownBlock ≠ some g := fun g hg e => by have := HFR.out.1 g e; omega
          have so10 := so9.keep (w' := w10) (fun g hs => hk10 g (so9.lt hs) (fun e => HSF.out g e hs))
          have vs310 := vs3.keep (w' := w10) (fun g hl hg => hk10 g hl (hfar g (HFR.out.2.1 g hg))) (fun g hl hg => hk10 g hl (hfar g (HFR.out.2.2.1 g hg)))
          have vs810 := vs8.keep (w' := w10) (fun g hl hg => hk10 g hl (hfar g (by have := HVA.out.1 g hg; have := HFR.out.2.2.2; omega))) (fun g hl hg => hk10 g hl (hfar g (by have := HVA.out.2 g hg; have := HFR.out.2.2.2; omega)))
          have hRw' := HRES.out.1
          have hR10 : Blk w10 R _ _ := (hk10 R hR9.lt (hfar R hRw')).trans hR9
          have hY10 : Blk w10 Y _ _ := (hk10 Y hY9.lt (hfar Y (by omega))).trans hY9
          have bel10 : Below w0.heap.size w0 w10 := by
            refine bel9.trans ?_
            refine ⟨g10.os, g10.tape, g10.output, hsz10, fun g hl => hk10 g (by have := bel9.size; omega) (fun e => ?_)⟩
            have := (q9.lt e).2.1
            have := B1.out.size
            omega
          have hofB : ofR ss0 (fl ++ [u]) = some s' := by rw [ofR_snoc, HOS.out]; exact hts
          have hlenB : (fl ++ [u]).length ≤ k + 1 := by rw [List.length_append]; simp; omega
          have hrecB : ∀ y ∈ fl ++ [u], y.size ≤ 65535 := fun y hy => by
            rcases List.mem_append.1 hy with h | h
            · exact HFS.out y h
            · rw [List.mem_singleton.1 h]; exact hu1
          have H10 := Lib.hid (And.intro so10 (And.intro vs310 (And.intro vs810 (And.intro hR10 (And.intro hY10 bel10)))))
          clear so9 vs3 vs8 hR9 q9 bel9 hY9 hk10 hfar so10 vs310 vs810 hR10 hY10 bel10 g10 q10 H9 H9Y HVA
          generalize fl ++ [u] = flt at *
          have HOFB := Lib.hid (of_any w10 xa xc flt hrt10 (by omega) (fun y hy => by have := hrecB y hy; omega))
          have HOB := Lib.hid hofB
          clear hofB hrecB hrt10
          go_wp2_with fail
          refine HOFB.out.mono ?_
          rintro e w11 ⟨b11, h11, _⟩
          obtain ⟨hsz11, v11, rfl, vs11, _⟩ := h11 s' HOB.out
          have hsz' : SzS s' 1000000 := hsz11.up (by omega)
          obtain ⟨w12, hw12⟩ : ∃ W, W = w11.alloc (.cells #[.string s'.room, .slice v11.a1 s'.events.length v11.c1, .int .i64 (s'.used : Int), .slice v11.a2 s'.queue.length v11.c2] 36) := ⟨_, rfl⟩
          have b1112 : Below w11.heap.size w11 w12 := by rw [hw12]; exact (Below.refl _ _).alloc (Nat.le_refl _) _
          have b12 : Below w10.heap.size w10 w12 := b11.trans (b1112.mono b11.size)
          have hZ12 : Blk w12 w11.heap.size 36 [.string s'.room, .slice v11.a1 s'.events.length v11.c1, .int .i64 (s'.used : Int), .slice v11.a2 s'.queue.length v11.c2] := by rw [hw12]; exact Blk.new w11 _ _
          obtain ⟨Z, hZ⟩ : ∃ Z, Z = w11.heap.size := ⟨_, rfl⟩
          obtain ⟨so10, vs310, vs810, hR10, hY10, bel10⟩ := H10.out
          have so12 := so10.below b12 (Nat.le_refl _)
          have vs312 := vs310.below b12
          have vs812 := vs810.below b12
          have vs1112 := vs11.below b1112
          have hR12 := hR10.below b12 hR10.lt
          have hY12 := hY10.below b12 hY10.lt
          have BEL12 := Lib.hid (bel10.trans (b12.mono bel10.size))
          clear b11 h11 vs11 b1112 b12 so10 vs310 vs810 hR10 hY10 bel10 H10 HOFB HOB
          unfold vsV
          go_wp2
          rw [← hw12]
          rw [← hZ] at hZ12 ⊢
          clear hw12 hZ
          have hlR : R < w12.heap.size := hR12.lt
          have hlY : Y < w12.heap.size := hY12.lt
          have hlZ : Z < w12.heap.size := hZ12.lt
          have k0 : w12.cell? ⟨R, 0, none⟩ = some (.string s.room) := hR12.cell 0
          have k1 : w12.cell? ⟨R, 1, none⟩ = some (.slice v3.a1 s.events.length v3.c1) := hR12.cell 1
          have k2 : w12.cell? ⟨R, 2, none⟩ = some (.int .i64 (s.used : Int)) := hR12.cell 2
          have k3 : w12.cell? ⟨R, 3, none⟩ = some (.slice v3.a2 s.queue.length v3.c2) := hR12.cell 3
          have y0 : w12.cell? ⟨Y, 0, none⟩ = some (.string s.room) := hY12.cell 0
          have y1 : w12.cell? ⟨Y, 1, none⟩ = some (.slice v8.a1 s.events.length v8.c1) := hY12.cell 1
          have y2 : w12.cell? ⟨Y, 2, none⟩ = some (.int .i64 (s.used : Int)) := hY12.cell 2
          have y3 : w12.cell? ⟨Y, 3, none⟩ = some (.slice v8.a2 s.queue.length v8.c2) := hY12.cell 3
          have z0 : w12.cell? ⟨Z, 0, none⟩ = some (.string s'.room) := hZ12.cell 0
          have z1 : w12.cell? ⟨Z, 1, none⟩ = some (.slice v11.a1 s'.events.length v11.c1) := hZ12.cell 1
          have z2 : w12.cell? ⟨Z, 2, none⟩ = some (.int .i64 (s'.used : Int)) := hZ12.cell 2
          have z3 : w12.cell? ⟨Z, 3, none⟩ = some (.slice v11.a2 s'.queue.length v11.c2) := hZ12.cell 3
          have kkk0 : w12.drew.cell? ⟨R, 0, none⟩ = some (.string s.room) := k0
          have kkk1 : w12.drew.cell? ⟨R, 1, none⟩ = some (.slice v3.a1 s.events.length v3.c1) := k1
          have kkk2 : w12.drew.cell? ⟨R, 2, none⟩ = some (.int .i64 (s.used : Int)) := k2
          have kkk3 : w12.drew.cell? ⟨R, 3, none⟩ = some (.slice v3.a2 s.queue.length v3.c2) := k3
          have kky0 : w12.drew.cell? ⟨Y, 0, none⟩ = some (.string s.room) := y0
          have kky1 : w12.drew.cell? ⟨Y, 1, none⟩ = some (.slice v8.a1 s.events.length v8.c1) := y1
          have kky2 : w12.drew.cell? ⟨Y, 2, none⟩ = some (.int .i64 (s.used : Int)) := y2
          have kky3 : w12.drew.cell? ⟨Y, 3, none⟩ = some (.slice v8.a2 s.queue.length v8.c2) := y3
          have kkz0 : w12.drew.cell? ⟨Z, 0, none⟩ = some (.string s'.room) := z0
          have kkz1 : w12.drew.cell? ⟨Z, 1, none⟩ = some (.slice v11.a1 s'.events.length v11.c1) := z1
          have kkz2 : w12.drew.cell? ⟨Z, 2, none⟩ = some (.int .i64 (s'.used : Int)) := z2
          have kkz3 : w12.drew.cell? ⟨Z, 3, none⟩ = some (.slice v11.a2 s'.queue.length v11.c2) := z3
          have bdr : Below w12.heap.size w12 w12.drew := (Below.refl _ _).drew
          clear hR12 hY12 hZ12
          by_cases hss : s2 = s
          · rw [hss] at so12 HZ7
            clear hss hs2c
            have HSTA := Lib.hid (state_at so12.st HZ7.out)
            have HASA := Lib.hid (fun Wq v hv hq => as_at (w7 := w12) (s := s) Wq v hv hq)
            have HSM1 := Lib.hid (fun Wq hq => same_at (w7 := w12) hsz hsz vs812 Wq v3 (vs312.below hq) hq)
            have HSM2 := Lib.hid (fun Wq v hv hq => same_at (w7 := w12) HZ7.out hsz vs812 Wq v hv hq)
            rw [sameB_self] at HSM1 HSM2
            clear so12 vs312 vs812 vs1112 HZ7
            refine wp_region_held_drew (S := (fun w' => w'.cell? ⟨R, 0, none⟩ = some (.string s.room) ∧ w'.cell? ⟨R, 1, none⟩ = some (.slice v3.a1 s.events.length v3.c1) ∧ w'.cell? ⟨R, 2, none⟩ = some (.int .i64 (s.used : Int)) ∧ w'.cell? ⟨R, 3, none⟩ = some (.slice v3.a2 s.queue.length v3.c2) ∧ w'.cell? ⟨Y, 0, none⟩ = some (.string s.room) ∧ w'.cell? ⟨Y, 1, none⟩ = some (.slice v8.a1 s.events.length v8.c1) ∧ w'.cell? ⟨Y, 2, none⟩ = some (.int .i64 (s.used : Int)) ∧ w'.cell? ⟨Y, 3, none⟩ = some (.slice v8.a2 s.queue.length v8.c2) ∧ w'.cell? ⟨Z, 0, none⟩ = some (.string s'.room) ∧ w'.cell? ⟨Z, 1, none⟩ = some (.slice v11.a1 s'.events.length v11.c1) ∧ w'.cell? ⟨Z, 2, none⟩ = some (.int .i64 (s'.used : Int)) ∧ w'.cell? ⟨Z, 3, none⟩ = some (.slice v11.a2 s'.queue.length v11.c2))) (by kernel_rfl) ?_ (fun hHeld => ?_)
            · exact ⟨kkk0, kkk1, kkk2, kkk3, kky0, kky1, kky2, kky3, kkz0, kkz1, kkz2, kkz3⟩
            refine wpAnyH_take (i := 0) (v := ?_) rfl (by kernel_rfl) (by kernel_rfl) (by kernel_rfl) (fun _ _ _ h => h) (Or.inl ⟨by rfl, ?_⟩) (by assumption) ?_
            rotate_left
            · (intro w hSw; (try dsimp only at hSw); go_simp)
              first | done | with_reducible rfl
            try simp only [Act.put, List.getElem_toArray, List.getElem_cons_zero, List.setIfInBounds_toArray, List.set_cons_zero, List.set_cons_succ]
            refine wpAnyH_take (i := 1) (v := ?_) rfl (by kernel_rfl) (by kernel_rfl) (by kernel_rfl) (fun _ _ _ h => h) (Or.inl ⟨by rfl, ?_⟩) (by assumption) ?_
            rotate_left
            · (intro w hSw; (try dsimp only at hSw); go_simp)
              first | done | with_reducible rfl
            try simp only [Act.put, List.getElem_toArray, List.getElem_cons_zero, List.getElem_cons_succ, List.setIfInBounds_toArray, List.set_cons_zero, List.set_cons_succ]
            refine wpAnyH_take (i := 2) (v := ?_) rfl (by kernel_rfl) (by kernel_rfl) (by kernel_rfl) (fun _ _ _ h => h) (Or.inl ⟨by rfl, ?_⟩) (by assumption) ?_
            rotate_left
            · (intro w hSw; (try dsimp only at hSw); go_simp)
              first | done | with_reducible rfl
            try simp only [Act.put, List.getElem_toArray, List.getElem_cons_zero, List.getElem_cons_succ, List.setIfInBounds_toArray, List.set_cons_zero, List.set_cons_succ]
            refine wpAnyH_take (i := 3) (v := ?_) rfl (by kernel_rfl) (by kernel_rfl) (by kernel_rfl) (fun _ _ _ h => h) (Or.inl ⟨by rfl, ?_⟩) (by assumption) ?_
            rotate_left
            · (intro w hSw; (try dsimp only at hSw); go_simp)
              first | done | with_reducible rfl
            try simp only [Act.put, List.getElem_toArray, List.getElem_cons_zero, List.getElem_cons_succ, List.setIfInBounds_toArray, List.set_cons_zero, List.set_cons_succ]
            refine wpAnyH_ready (rs := [4]) (by kernel_rfl) (by simp) ?_
            refine AllReadyH.cons rfl (fun K hK => ?_) AllReadyH.nil
            go_simp
            go_at_call 15
            refine (HSM1.out _ (by first | exact bdr)).mono ?_
            rintro e w21 ⟨rfl, b21⟩
            try go_wp2_with fail
            refine hK.out _ _ ?_ (fun hHeld => ?_)
            · exact ⟨(b21.cell (p := ⟨R, 0, none⟩) hlR).trans k0, (b21.cell (p := ⟨R, 1, none⟩) hlR).trans k1, (b21.cell (p := ⟨R, 2, none⟩) hlR).trans k2, (b21.cell (p := ⟨R, 3, none⟩) hlR).trans k3, (b21.cell (p := ⟨Y, 0, none⟩) hlY).trans y0, (b21.cell (p := ⟨Y, 1, none⟩) hlY).trans y1, (b21.cell (p := ⟨Y, 2, none⟩) hlY).trans y2, (b21.cell (p := ⟨Y, 3, none⟩) hlY).trans y3, (b21.cell (p := ⟨Z, 0, none⟩) hlZ).trans z0, (b21.cell (p := ⟨Z, 1, none⟩) hlZ).trans z1, (b21.cell (p := ⟨Z, 2, none⟩) hlZ).trans z2, (b21.cell (p := ⟨Z, 3, none⟩) hlZ).trans z3⟩
            clear hK K
            try simp only [Act.put, List.getElem_toArray, List.getElem_cons_zero, List.getElem_cons_succ, List.setIfInBounds_toArray, List.set_cons_zero, List.set_cons_succ]
            refine wpAnyH_take (i := 5) (v := ?_) rfl (by kernel_rfl) (by kernel_rfl) (by kernel_rfl) (fun _ _ _ h => h) (Or.inl ⟨by rfl, ?_⟩) (by assumption) ?_
            rotate_left
            · (intro w hSw; (try dsimp only at hSw); go_simp)
              first | done | with_reducible rfl
            try simp only [Act.put, List.getElem_toArray, List.getElem_cons_zero, List.getElem_cons_succ, List.setIfInBounds_toArray, List.set_cons_zero, List.set_cons_succ]
            refine wpAnyH_take (i := 6) (v := ?_) rfl (by kernel_rfl) (by kernel_rfl) (by kernel_rfl) (fun _ _ _ h => h) (Or.inl ⟨by rfl, ?_⟩) (by assumption) ?_
            rotate_left
            · (intro w hSw; (try dsimp only at hSw); go_simp)
              first | done | with_reducible rfl
            try simp only [Act.put, List.getElem_toArray, List.getElem_cons_zero, List.getElem_cons_succ, List.setIfInBounds_toArray, List.set_cons_zero, List.set_cons_succ]
            refine wpAnyH_take (i := 7) (v := ?_) rfl (by kernel_rfl) (by kernel_rfl) (by kernel_rfl) (fun _ _ _ h => h) (Or.inl ⟨by rfl, ?_⟩) (by assumption) ?_
            rotate_left
            · (intro w hSw; (try dsimp only at hSw); go_simp)
              first | done | with_reducible rfl
            try simp only [Act.put, List.getElem_toArray, List.getElem_cons_zero, List.getElem_cons_succ, List.setIfInBounds_toArray, List.set_cons_zero, List.set_cons_succ]
            refine wpAnyH_take (i := 10) (v := ?_) rfl (by kernel_rfl) (by kernel_rfl) (by kernel_rfl) (fun _ _ _ h => h) (Or.inl ⟨by rfl, ?_⟩) (by assumption) ?_
            rotate_left
            · (intro w hSw; (try dsimp only at hSw); go_simp)
              first | done | with_reducible rfl
            try simp only [Act.put, List.getElem_toArray, List.getElem_cons_zero, List.getElem_cons_succ, List.setIfInBounds_toArray, List.set_cons_zero, List.set_cons_succ]
            refine wpAnyH_ready (rs := [8]) (by kernel_rfl) (by simp) ?_
            refine AllReadyH.cons rfl (fun K hK => ?_) AllReadyH.nil
            go_simp
            go_at_call 13
            refine (HSTA.out _ b21).mono ?_
            rintro e w22 ⟨v22, rfl, vs22, b22⟩
            try go_wp2_with fail
            refine hK.out _ _ ?_ (fun hHeld => ?_)
            · exact ⟨(b22.cell (p := ⟨R, 0, none⟩) hlR).trans k0, (b22.cell (p := ⟨R, 1, none⟩) hlR).trans k1, (b22.cell (p := ⟨R, 2, none⟩) hlR).trans k2, (b22.cell (p := ⟨R, 3, none⟩) hlR).trans k3, (b22.cell (p := ⟨Y, 0, none⟩) hlY).trans y0, (b22.cell (p := ⟨Y, 1, none⟩) hlY).trans y1, (b22.cell (p := ⟨Y, 2, none⟩) hlY).trans y2, (b22.cell (p := ⟨Y, 3, none⟩) hlY).trans y3, (b22.cell (p := ⟨Z, 0, none⟩) hlZ).trans z0, (b22.cell (p := ⟨Z, 1, none⟩) hlZ).trans z1, (b22.cell (p := ⟨Z, 2, none⟩) hlZ).trans z2, (b22.cell (p := ⟨Z, 3, none⟩) hlZ).trans z3⟩
            clear hK K
            try simp only [Act.put, List.getElem_toArray, List.getElem_cons_zero, List.getElem_cons_succ, List.setIfInBounds_toArray, List.set_cons_zero, List.set_cons_succ]
            refine wpAnyH_ready (rs := [9]) (by kernel_rfl) (by simp) ?_
            refine AllReadyH.cons rfl (fun K hK => ?_) AllReadyH.nil
            go_simp
            go_at_call 12
            refine (HASA.out _ v22 vs22 b22).mono ?_
            rintro e w23 ⟨rfl, vs23, b23⟩
            try go_wp2_with fail
            refine hK.out _ _ ?_ (fun hHeld => ?_)
            · exact ⟨(b23.cell (p := ⟨R, 0, none⟩) hlR).trans k0, (b23.cell (p := ⟨R, 1, none⟩) hlR).trans k1, (b23.cell (p := ⟨R, 2, none⟩) hlR).trans k2, (b23.cell (p := ⟨R, 3, none⟩) hlR).trans k3, (b23.cell (p := ⟨Y, 0, none⟩) hlY).trans y0, (b23.cell (p := ⟨Y, 1, none⟩) hlY).trans y1, (b23.cell (p := ⟨Y, 2, none⟩) hlY).trans y2, (b23.cell (p := ⟨Y, 3, none⟩) hlY).trans y3, (b23.cell (p := ⟨Z, 0, none⟩) hlZ).trans z0, (b23.cell (p := ⟨Z, 1, none⟩) hlZ).trans z1, (b23.cell (p := ⟨Z, 2, none⟩) hlZ).trans z2, (b23.cell (p := ⟨Z, 3, none⟩) hlZ).trans z3⟩
            clear hK K
            try simp only [Act.put, List.getElem_toArray, List.getElem_cons_zero, List.getElem_cons_succ, List.setIfInBounds_toArray, List.set_cons_zero, List.set_cons_succ]
            refine wpAnyH_ready (rs := [11]) (by kernel_rfl) (by simp) ?_
            refine AllReadyH.cons rfl (fun K hK => ?_) AllReadyH.nil
            go_simp
            go_at_call 15
            refine (HSM2.out _ v22 vs23 b23).mono ?_
            rintro e w24 ⟨rfl, b24⟩
            try go_wp2_with fail
            refine hK.out _ _ ?_ (fun hHeld => ?_)
            · exact ⟨(b24.cell (p := ⟨R, 0, none⟩) hlR).trans k0, (b24.cell (p := ⟨R, 1, none⟩) hlR).trans k1, (b24.cell (p := ⟨R, 2, none⟩) hlR).trans k2, (b24.cell (p := ⟨R, 3, none⟩) hlR).trans k3, (b24.cell (p := ⟨Y, 0, none⟩) hlY).trans y0, (b24.cell (p := ⟨Y, 1, none⟩) hlY).trans y1, (b24.cell (p := ⟨Y, 2, none⟩) hlY).trans y2, (b24.cell (p := ⟨Y, 3, none⟩) hlY).trans y3, (b24.cell (p := ⟨Z, 0, none⟩) hlZ).trans z0, (b24.cell (p := ⟨Z, 1, none⟩) hlZ).trans z1, (b24.cell (p := ⟨Z, 2, none⟩) hlZ).trans z2, (b24.cell (p := ⟨Z, 3, none⟩) hlZ).trans z3⟩
            clear hK K
            try simp only [Act.put, List.getElem_toArray, List.getElem_cons_zero, List.getElem_cons_succ, List.setIfInBounds_toArray, List.set_cons_zero, List.set_cons_succ]
            refine wpAnyH_take (i := 12) (v := ?_) rfl (by kernel_rfl) (by kernel_rfl) (by kernel_rfl) (fun _ _ _ h => h) (Or.inl ⟨by rfl, ?_⟩) (by assumption) ?_
            rotate_left
            · (intro w hSw; (try dsimp only at hSw); go_simp)
              first | done | with_reducible rfl
            try simp only [Act.put, List.getElem_toArray, List.getElem_cons_zero, List.getElem_cons_succ, List.setIfInBounds_toArray, List.set_cons_zero, List.set_cons_succ]
            refine wpAnyH_take (i := 13) rfl (by kernel_rfl) (by kernel_rfl) (by kernel_rfl) (fun _ _ _ h => h) (Or.inr ⟨by rfl, rfl⟩) (by assumption) ?_
            try simp only [Act.put, List.getElem_toArray, List.getElem_cons_zero, List.getElem_cons_succ, List.setIfInBounds_toArray, List.set_cons_zero, List.set_cons_succ]
            refine wpAnyH_take (i := 14) rfl (by kernel_rfl) (by kernel_rfl) (by kernel_rfl) (fun _ _ _ h => h) (Or.inr ⟨by rfl, rfl⟩) (by assumption) ?_
            try simp only [Act.put, List.getElem_toArray, List.getElem_cons_zero, List.getElem_cons_succ, List.setIfInBounds_toArray, List.set_cons_zero, List.set_cons_succ]
            refine wpAnyH_take (i := 15) rfl (by kernel_rfl) (by kernel_rfl) (by kernel_rfl) (fun _ _ _ h => h) (Or.inr ⟨by rfl, rfl⟩) (by assumption) ?_
            try simp only [Act.put, List.getElem_toArray, List.getElem_cons_zero, List.getElem_cons_succ, List.setIfInBounds_toArray, List.set_cons_zero, List.set_cons_succ]
            refine wpAnyH_take (i := 16) rfl (by kernel_rfl) (by kernel_rfl) (by kernel_rfl) (fun _ _ _ h => h) (Or.inr ⟨by rfl, rfl⟩) (by assumption) ?_
            try simp only [Act.put, List.getElem_toArray, List.getElem_cons_zero, List.getElem_cons_succ, List.setIfInBounds_toArray, List.set_cons_zero, List.set_cons_succ]
            refine wpAnyH_take (i := 17) rfl (by kernel_rfl) (by kernel_rfl) (by kernel_rfl) (fun _ _ _ h => h) (Or.inr ⟨by rfl, rfl⟩) (by assumption) ?_
            try simp only [Act.put, List.getElem_toArray, List.getElem_cons_zero, List.getElem_cons_succ, List.setIfInBounds_toArray, List.set_cons_zero, List.set_cons_succ]
            refine wpAnyH_take (i := 18) (v := ?_) rfl (by kernel_rfl) (by kernel_rfl) (by kernel_rfl) (fun _ _ _ h => h) (Or.inl ⟨by rfl, ?_⟩) (by assumption) ?_
            rotate_left
            · (intro w hSw; (try dsimp only at hSw); go_simp)
              first | done | with_reducible rfl
            try simp only [Act.put, List.getElem_toArray, List.getElem_cons_zero, List.getElem_cons_succ, List.setIfInBounds_toArray, List.set_cons_zero, List.set_cons_succ]
            refine wpAnyH_take (i := 19) (v := ?_) rfl (by kernel_rfl) (by kernel_rfl) (by kernel_rfl) (fun _ _ _ h => h) (Or.inl ⟨by rfl, ?_⟩) (by assumption) ?_
            rotate_left
            · (intro w hSw; (try dsimp only at hSw); go_simp)
              first | done | with_reducible rfl
            try simp only [Act.put, List.getElem_toArray, List.getElem_cons_zero, List.getElem_cons_succ, List.setIfInBounds_toArray, List.set_cons_zero, List.set_cons_succ]
            refine wpAnyH_take (i := 20) (v := ?_) rfl (by kernel_rfl) (by kernel_rfl) (by kernel_rfl) (fun _ _ _ h => h) (Or.inl ⟨by rfl, ?_⟩) (by assumption) ?_
            rotate_left
            · (intro w hSw; (try dsimp only at hSw); go_simp)
              first | done | with_reducible rfl
            try simp only [Act.put, List.getElem_toArray, List.getElem_cons_zero, List.getElem_cons_succ, List.setIfInBounds_toArray, List.set_cons_zero, List.set_cons_succ]
            refine wpAnyH_done (by kernel_rfl) ?_ _
            have BF := Lib.hid (BEL12.out.trans (b24.mono BEL12.out.size))
            clear vs22 vs23 b21 b22 b23 b24 bdr
            go_wp2
            go_ret
            exact ⟨rfl, BF.out⟩
          · have hs2s : s2 = s' := by
              rcases hs2c with h | ⟨_, h⟩
              · exact absurd h hss
              · rw [hts] at h; exact (Option.some.inj h).symm
            rw [hs2s] at so12 HZ7 hss
            have hsb : sameB s' s = false := by
              cases h : sameB s' s
              · rfl
              · exact absurd ((sameB_iff _ _).1 h) hss
            clear hss hs2c hs2s
            have HSTA := Lib.hid (state_at so12.st HZ7.out)
            have HASA := Lib.hid (fun Wq v hv hq => as_at (w7 := w12) (s := s') Wq v hv hq)
            have HSM1 := Lib.hid (fun Wq hq => same_at (w7 := w12) hsz hsz vs812 Wq v3 (vs312.below hq) hq)
            have HSM2 := Lib.hid (fun Wq v hv hq => same_at (w7 := w12) HZ7.out hsz vs812 Wq v hv hq)
            have HSM3 := Lib.hid (fun Wq v hv hq => same_at (w7 := w12) HZ7.out hsz' vs1112 Wq v hv hq)
            rw [sameB_self] at HSM1 HSM3
            rw [hsb] at HSM2
            clear hsb
            clear so12 vs312 vs812 vs1112 HZ7
            first | (go_region_held3 (fun w' => w'.cell? ⟨R, 0, none⟩ = some (.string s.room) ∧ w'.cell? ⟨R, 1, none⟩ = some (.slice v3.a1 s.events.length v3.c1) ∧ w'.cell? ⟨R, 2, none⟩ = some (.int .i64 (s.used : Int)) ∧ w'.cell? ⟨R, 3, none⟩ = some (.slice v3.a2 s.queue.length v3.c2) ∧ w'.cell? ⟨Y, 0, none⟩ = some (.string s.room) ∧ w'.cell? ⟨Y, 1, none⟩ = some (.slice v8.a1 s.events.length v8.c1) ∧ w'.cell? ⟨Y, 2, none⟩ = some (.int .i64 (s.used : Int)) ∧ w'.cell? ⟨Y, 3, none⟩ = some (.slice v8.a2 s.queue.length v8.c2) ∧ w'.cell? ⟨Z, 0, none⟩ = some (.string s'.room) ∧ w'.cell? ⟨Z, 1, none⟩ = some (.slice v11.a1 s'.events.length v11.c1) ∧ w'.cell? ⟨Z, 2, none⟩ = some (.int .i64 (s'.used : Int)) ∧ w'.cell? ⟨Z, 3, none⟩ = some (.slice v11.a2 s'.queue.length v11.c2))
              (first | with_reducible exact ⟨(b27.cell (p := ⟨R, 0, none⟩) hlR).trans k0, (b27.cell (p := ⟨R, 1, none⟩) hlR).trans k1, (b27.cell (p := ⟨R, 2, none⟩) hlR).trans k2, (b27.cell (p := ⟨R, 3, none⟩) hlR).trans k3, (b27.cell (p := ⟨Y, 0, none⟩) hlY).trans y0, (b27.cell (p := ⟨Y, 1, none⟩) hlY).trans y1, (b27.cell (p := ⟨Y, 2, none⟩) hlY).trans y2, (b27.cell (p := ⟨Y, 3, none⟩) hlY).trans y3, (b27.cell (p := ⟨Z, 0, none⟩) hlZ).trans z0, (b27.cell (p := ⟨Z, 1, none⟩) hlZ).trans z1, (b27.cell (p := ⟨Z, 2, none⟩) hlZ).trans z2, (b27.cell (p := ⟨Z, 3, none⟩) hlZ).trans z3⟩ | with_reducible exact (b27.cell (p := ⟨R, 0, none⟩) hlR).trans k0 | with_reducible exact (b27.cell (p := ⟨R, 1, none⟩) hlR).trans k1 | with_reducible exact (b27.cell (p := ⟨R, 2, none⟩) hlR).trans k2 | with_reducible exact (b27.cell (p := ⟨R, 3, none⟩) hlR).trans k3 | with_reducible exact (b27.cell (p := ⟨Y, 0, none⟩) hlY).trans y0 | with_reducible exact (b27.cell (p := ⟨Y, 1, none⟩) hlY).trans y1 | with_reducible exact (b27.cell (p := ⟨Y, 2, none⟩) hlY).trans y2 | with_reducible exact (b27.cell (p := ⟨Y, 3, none⟩) hlY).trans y3 | with_reducible exact (b27.cell (p := ⟨Z, 0, none⟩) hlZ).trans z0 | with_reducible exact (b27.cell (p := ⟨Z, 1, none⟩) hlZ).trans z1 | with_reducible exact (b27.cell (p := ⟨Z, 2, none⟩) hlZ).trans z2 | with_reducible exact (b27.cell (p := ⟨Z, 3, none⟩) hlZ).trans z3 | with_reducible exact ⟨(b26.cell (p := ⟨R, 0, none⟩) hlR).trans k0, (b26.cell (p := ⟨R, 1, none⟩) hlR).trans k1, (b26.cell (p := ⟨R, 2, none⟩) hlR).trans k2, (b26.cell (p := ⟨R, 3, none⟩) hlR).trans k3, (b26.cell (p := ⟨Y, 0, none⟩) hlY).trans y0, (b26.cell (p := ⟨Y, 1, none⟩) hlY).trans y1, (b26.cell (p := ⟨Y, 2, none⟩) hlY).trans y2, (b26.cell (p := ⟨Y, 3, none⟩) hlY).trans y3, (b26.cell (p := ⟨Z, 0, none⟩) hlZ).trans z0, (b26.cell (p := ⟨Z, 1, none⟩) hlZ).trans z1, (b26.cell (p := ⟨Z, 2, none⟩) hlZ).trans z2, (b26.cell (p := ⟨Z, 3, none⟩) hlZ).trans z3⟩ | with_reducible exact (b26.cell (p := ⟨R, 0, none⟩) hlR).trans k0 | with_reducible exact (b26.cell (p := ⟨R, 1, none⟩) hlR).trans k1 | with_reducible exact (b26.cell (p := ⟨R, 2, none⟩) hlR).trans k2 | with_reducible exact (b26.cell (p := ⟨R, 3, none⟩) hlR).trans k3 | with_reducible exact (b26.cell (p := ⟨Y, 0, none⟩) hlY).trans y0 | with_reducible exact (b26.cell (p := ⟨Y, 1, none⟩) hlY).trans y1 | with_reducible exact (b26.cell (p := ⟨Y, 2, none⟩) hlY).trans y2 | with_reducible exact (b26.cell (p := ⟨Y, 3, none⟩) hlY).trans y3 | with_reducible exact (b26.cell (p := ⟨Z, 0, none⟩) hlZ).trans z0 | with_reducible exact (b26.cell (p := ⟨Z, 1, none⟩) hlZ).trans z1 | with_reducible exact (b26.cell (p := ⟨Z, 2, none⟩) hlZ).trans z2 | with_reducible exact (b26.cell (p := ⟨Z, 3, none⟩) hlZ).trans z3 | with_reducible exact ⟨(b25.cell (p := ⟨R, 0, none⟩) hlR).trans k0, (b25.cell (p := ⟨R, 1, none⟩) hlR).trans k1, (b25.cell (p := ⟨R, 2, none⟩) hlR).trans k2, (b25.cell (p := ⟨R, 3, none⟩) hlR).trans k3, (b25.cell (p := ⟨Y, 0, none⟩) hlY).trans y0, (b25.cell (p := ⟨Y, 1, none⟩) hlY).trans y1, (b25.cell (p := ⟨Y, 2, none⟩) hlY).trans y2, (b25.cell (p := ⟨Y, 3, none⟩) hlY).trans y3, (b25.cell (p := ⟨Z, 0, none⟩) hlZ).trans z0, (b25.cell (p := ⟨Z, 1, none⟩) hlZ).trans z1, (b25.cell (p := ⟨Z, 2, none⟩) hlZ).trans z2, (b25.cell (p := ⟨Z, 3, none⟩) hlZ).trans z3⟩ | with_reducible exact (b25.cell (p := ⟨R, 0, none⟩) hlR).trans k0 | with_reducible exact (b25.cell (p := ⟨R, 1, none⟩) hlR).trans k1 | with_reducible exact (b25.cell (p := ⟨R, 2, none⟩) hlR).trans k2 | with_reducible exact (b25.cell (p := ⟨R, 3, none⟩) hlR).trans k3 | with_reducible exact (b25.cell (p := ⟨Y, 0, none⟩) hlY).trans y0 | with_reducible exact (b25.cell (p := ⟨Y, 1, none⟩) hlY).trans y1 | with_reducible exact (b25.cell (p := ⟨Y, 2, none⟩) hlY).trans y2 | with_reducible exact (b25.cell (p := ⟨Y, 3, none⟩) hlY).trans y3 | with_reducible exact (b25.cell (p := ⟨Z, 0, none⟩) hlZ).trans z0 | with_reducible exact (b25.cell (p := ⟨Z, 1, none⟩) hlZ).trans z1 | with_reducible exact (b25.cell (p := ⟨Z, 2, none⟩) hlZ).trans z2 | with_reducible exact (b25.cell (p := ⟨Z, 3, none⟩) hlZ).trans z3 | with_reducible exact ⟨(b24.cell (p := ⟨R, 0, none⟩) hlR).trans k0, (b24.cell (p := ⟨R, 1, none⟩) hlR).trans k1, (b24.cell (p := ⟨R, 2, none⟩) hlR).trans k2, (b24.cell (p := ⟨R, 3, none⟩) hlR).trans k3, (b24.cell (p := ⟨Y, 0, none⟩) hlY).trans y0, (b24.cell (p := ⟨Y, 1, none⟩) hlY).trans y1, (b24.cell (p := ⟨Y, 2, none⟩) hlY).trans y2, (b24.cell (p := ⟨Y, 3, none⟩) hlY).trans y3, (b24.cell (p := ⟨Z, 0, none⟩) hlZ).trans z0, (b24.cell (p := ⟨Z, 1, none⟩) hlZ).trans z1, (b24.cell (p := ⟨Z, 2, none⟩) hlZ).trans z2, (b24.cell (p := ⟨Z, 3, none⟩) hlZ).trans z3⟩ | with_reducible exact (b24.cell (p := ⟨R, 0, none⟩) hlR).trans k0 | with_reducible exact (b24.cell (p := ⟨R, 1, none⟩) hlR).trans k1 | with_reducible exact (b24.cell (p := ⟨R, 2, none⟩) hlR).trans k2 | with_reducible exact (b24.cell (p := ⟨R, 3, none⟩) hlR).trans k3 | with_reducible exact (b24.cell (p := ⟨Y, 0, none⟩) hlY).trans y0 | with_reducible exact (b24.cell (p := ⟨Y, 1, none⟩) hlY).trans y1 | with_reducible exact (b24.cell (p := ⟨Y, 2, none⟩) hlY).trans y2 | with_reducible exact (b24.cell (p := ⟨Y, 3, none⟩) hlY).trans y3 | with_reducible exact (b24.cell (p := ⟨Z, 0, none⟩) hlZ).trans z0 | with_reducible exact (b24.cell (p := ⟨Z, 1, none⟩) hlZ).trans z1 | with_reducible exact (b24.cell (p := ⟨Z, 2, none⟩) hlZ).trans z2 | with_reducible exact (b24.cell (p := ⟨Z, 3, none⟩) hlZ).trans z3 | with_reducible exact ⟨(b23.cell (p := ⟨R, 0, none⟩) hlR).trans k0, (b23.cell (p := ⟨R, 1, none⟩) hlR).trans k1, (b23.cell (p := ⟨R, 2, none⟩) hlR).trans k2, (b23.cell (p := ⟨R, 3, none⟩) hlR).trans k3, (b23.cell (p := ⟨Y, 0, none⟩) hlY).trans y0, (b23.cell (p := ⟨Y, 1, none⟩) hlY).trans y1, (b23.cell (p := ⟨Y, 2, none⟩) hlY).trans y2, (b23.cell (p := ⟨Y, 3, none⟩) hlY).trans y3, (b23.cell (p := ⟨Z, 0, none⟩) hlZ).trans z0, (b23.cell (p := ⟨Z, 1, none⟩) hlZ).trans z1, (b23.cell (p := ⟨Z, 2, none⟩) hlZ).trans z2, (b23.cell (p := ⟨Z, 3, none⟩) hlZ).trans z3⟩ | with_reducible exact (b23.cell (p := ⟨R, 0, none⟩) hlR).trans k0 | with_reducible exact (b23.cell (p := ⟨R, 1, none⟩) hlR).trans k1 | with_reducible exact (b23.cell (p := ⟨R, 2, none⟩) hlR).trans k2 | with_reducible exact (b23.cell (p := ⟨R, 3, none⟩) hlR).trans k3 | with_reducible exact (b23.cell (p := ⟨Y, 0, none⟩) hlY).trans y0 | with_reducible exact (b23.cell (p := ⟨Y, 1, none⟩) hlY).trans y1 | with_reducible exact (b23.cell (p := ⟨Y, 2, none⟩) hlY).trans y2 | with_reducible exact (b23.cell (p := ⟨Y, 3, none⟩) hlY).trans y3 | with_reducible exact (b23.cell (p := ⟨Z, 0, none⟩) hlZ).trans z0 | with_reducible exact (b23.cell (p := ⟨Z, 1, none⟩) hlZ).trans z1 | with_reducible exact (b23.cell (p := ⟨Z, 2, none⟩) hlZ).trans z2 | with_reducible exact (b23.cell (p := ⟨Z, 3, none⟩) hlZ).trans z3 | with_reducible exact ⟨(b22.cell (p := ⟨R, 0, none⟩) hlR).trans k0, (b22.cell (p := ⟨R, 1, none⟩) hlR).trans k1, (b22.cell (p := ⟨R, 2, none⟩) hlR).trans k2, (b22.cell (p := ⟨R, 3, none⟩) hlR).trans k3, (b22.cell (p := ⟨Y, 0, none⟩) hlY).trans y0, (b22.cell (p := ⟨Y, 1, none⟩) hlY).trans y1, (b22.cell (p := ⟨Y, 2, none⟩) hlY).trans y2, (b22.cell (p := ⟨Y, 3, none⟩) hlY).trans y3, (b22.cell (p := ⟨Z, 0, none⟩) hlZ).trans z0, (b22.cell (p := ⟨Z, 1, none⟩) hlZ).trans z1, (b22.cell (p := ⟨Z, 2, none⟩) hlZ).trans z2, (b22.cell (p := ⟨Z, 3, none⟩) hlZ).trans z3⟩ | with_reducible exact (b22.cell (p := ⟨R, 0, none⟩) hlR).trans k0 | with_reducible exact (b22.cell (p := ⟨R, 1, none⟩) hlR).trans k1 | with_reducible exact (b22.cell (p := ⟨R, 2, none⟩) hlR).trans k2 | with_reducible exact (b22.cell (p := ⟨R, 3, none⟩) hlR).trans k3 | with_reducible exact (b22.cell (p := ⟨Y, 0, none⟩) hlY).trans y0 | with_reducible exact (b22.cell (p := ⟨Y, 1, none⟩) hlY).trans y1 | with_reducible exact (b22.cell (p := ⟨Y, 2, none⟩) hlY).trans y2 | with_reducible exact (b22.cell (p := ⟨Y, 3, none⟩) hlY).trans y3 | with_reducible exact (b22.cell (p := ⟨Z, 0, none⟩) hlZ).trans z0 | with_reducible exact (b22.cell (p := ⟨Z, 1, none⟩) hlZ).trans z1 | with_reducible exact (b22.cell (p := ⟨Z, 2, none⟩) hlZ).trans z2 | with_reducible exact (b22.cell (p := ⟨Z, 3, none⟩) hlZ).trans z3 | with_reducible exact ⟨(b21.cell (p := ⟨R, 0, none⟩) hlR).trans k0, (b21.cell (p := ⟨R, 1, none⟩) hlR).trans k1, (b21.cell (p := ⟨R, 2, none⟩) hlR).trans k2, (b21.cell (p := ⟨R, 3, none⟩) hlR).trans k3, (b21.cell (p := ⟨Y, 0, none⟩) hlY).trans y0, (b21.cell (p := ⟨Y, 1, none⟩) hlY).trans y1, (b21.cell (p := ⟨Y, 2, none⟩) hlY).trans y2, (b21.cell (p := ⟨Y, 3, none⟩) hlY).trans y3, (b21.cell (p := ⟨Z, 0, none⟩) hlZ).trans z0, (b21.cell (p := ⟨Z, 1, none⟩) hlZ).trans z1, (b21.cell (p := ⟨Z, 2, none⟩) hlZ).trans z2, (b21.cell (p := ⟨Z, 3, none⟩) hlZ).trans z3⟩ | with_reducible exact (b21.cell (p := ⟨R, 0, none⟩) hlR).trans k0 | with_reducible exact (b21.cell (p := ⟨R, 1, none⟩) hlR).trans k1 | with_reducible exact (b21.cell (p := ⟨R, 2, none⟩) hlR).trans k2 | with_reducible exact (b21.cell (p := ⟨R, 3, none⟩) hlR).trans k3 | with_reducible exact (b21.cell (p := ⟨Y, 0, none⟩) hlY).trans y0 | with_reducible exact (b21.cell (p := ⟨Y, 1, none⟩) hlY).trans y1 | with_reducible exact (b21.cell (p := ⟨Y, 2, none⟩) hlY).trans y2 | with_reducible exact (b21.cell (p := ⟨Y, 3, none⟩) hlY).trans y3 | with_reducible exact (b21.cell (p := ⟨Z, 0, none⟩) hlZ).trans z0 | with_reducible exact (b21.cell (p := ⟨Z, 1, none⟩) hlZ).trans z1 | with_reducible exact (b21.cell (p := ⟨Z, 2, none⟩) hlZ).trans z2 | with_reducible exact (b21.cell (p := ⟨Z, 3, none⟩) hlZ).trans z3 | with_reducible exact ⟨kkk0, kkk1, kkk2, kkk3, kky0, kky1, kky2, kky3, kkz0, kkz1, kkz2, kkz3⟩ | with_reducible exact kkk0 | with_reducible exact kkk1 | with_reducible exact kkk2 | with_reducible exact kkk3 | with_reducible exact kky0 | with_reducible exact kky1 | with_reducible exact kky2 | with_reducible exact kky3 | with_reducible exact kkz0 | with_reducible exact kkz1 | with_reducible exact kkz2 | with_reducible exact kkz3 | fail)
              (first
                | (go_at_call 13; refine (HSTA.out _ b24).mono ?_; rintro e w25 ⟨v25, rfl, vs25, b25⟩)
                | (go_at_call 13; refine (HSTA.out _ b21).mono ?_; rintro e w22 ⟨v22, rfl, vs22, b22⟩)
                | (go_at_call 12; refine (HASA.out _ v25 vs25 b25).mono ?_; rintro e w26 ⟨rfl, vs26, b26⟩)
                | (go_at_call 12; refine (HASA.out _ v22 vs22 b22).mono ?_; rintro e w23 ⟨rfl, vs23, b23⟩)
                | (go_at_call 15; refine (HSM3.out _ v25 vs26 b26).mono ?_; rintro e w27 ⟨rfl, b27⟩)
                | (go_at_call 15; refine (HSM2.out _ v22 vs23 b23).mono ?_; rintro e w24 ⟨rfl, b24⟩)
                | (go_at_call 15; refine (HSM1.out _ (by first | exact bdr)).mono ?_; rintro e w21 ⟨rfl, b21⟩))) | fail
            have BF := Lib.hid (BEL12.out.trans (b27.mono BEL12.out.size))
            clear vs22 vs23 vs25 vs26 b21 b22 b23 b24 b25 b26 b27 bdr
            go_wp2
            go_ret
            exact ⟨rfl, BF.out⟩
  · rw [hg] at HG
    clear hg hA
    go_enter Tryz.func3, Tryz.ntmps3
    go_wp2_with fail
    refine HG.out.mono ?_
    rintro e w0 ⟨rfl, rfl⟩
    go_wp2_with fail
    refine (awake11 _).mono ?_
    rintro e w1 ⟨rfl, b1⟩
    have B1 := Lib.hid b1
    clear b1
    go_wp2
    go_ret
    exact ⟨rfl, B1.out⟩

theorem own : ownKnob Tryz.prog.godebug = none := by kernel_rfl
theorem laidOut : laidOutB Tryz.prog = true := by kernel_rfl

set_option maxRecDepth 100000 in
theorem contract (H : Type) (enc : TypeId × Value → H) (W : World) (base : Nat) (args : Array Value) (ds gs : List (DataW H)) (before : List MemPlace)
    (hval : ∀ (j : Nat) t v, Tryz.f3.params[j]? = some t → args[j]? = some v → Value.okWide Tryz.prog W .any base t v)
    (hW : DataW.Whole enc Tryz.prog Tryz.f3.params.toList Rows.storeCrashesSpec.vars false W args.toList ds gs before) (hL : laidMetH Tryz.prog Rows.storeCrashesRow.laid W) :
    Calls Tryz.prog 3 args W fun e W' => ∃ v, e = .returned v ∧ Rows.storeCrashesSpec.post enc Tryz.prog Tryz.f3 false true false false W args v W' := by
  have hW' := hW
  obtain ⟨p, q, hA0, hV, rfl, hfz, hnd⟩ := hW
  have hA : DataW.TrodAll enc Tryz.prog W 0 (fun _ => true) true Tryz.f3.params.toList args.toList ds p := hA0
  rw [Tryz.params3] at hA hval
  obtain ⟨v0, vs0, d0, ds0, p0, q0, hargs, rfl, rfl, h0, r0⟩ := trodAll_cons hA
  obtain ⟨v1, vs1, d1, ds1, p1, q1, rfl, rfl, rfl, h1, r1⟩ := trodAll_cons r0
  obtain ⟨v2, vs2, d2, ds2, p2, q2, rfl, rfl, rfl, h2, r2⟩ := trodAll_cons r1
  obtain ⟨rfl, rfl, rfl⟩ := trodAll_nil r2
  obtain rfl : args = #[v0, v1, v2] := by cases args; simp_all
  obtain ⟨rfl, rfl⟩ := trodVars_none hV
  obtain ⟨x0, len0, cap0, rfl⟩ := okWide_slice Tryz.underlying22 (hval 0 22 v0 rfl rfl)
  have k0 := h0
  have lt0 : ∀ x ∈ p0, x.block < W.heap.size := by obtain ⟨m, hm⟩ := k0; exact DataW.trod_lt m _ _ _ hm
  obtain ⟨l0, rfl, i0⟩ : ∃ l : List Sa, len0 = l.length ∧ SactsAt W x0 l := by
    obtain ⟨fuel, hf⟩ := h0
    exact sacts_of (show DataW.trod enc Tryz.prog W 0 (fun _ => true) true fuel 22 [.slice x0 len0 cap0] = some _ from hf)
  obtain ⟨a1, rfl, rfl, rfl, w1⟩ := open_int Tryz.underlying3 (hval 1 3 v1 rfl rfl) h1
  obtain ⟨x2, len2, cap2, rfl⟩ := okWide_slice Tryz.underlying23 (hval 2 23 v2 rfl rfl)
  have k2 := h2
  have lt2 : ∀ x ∈ p2, x.block < W.heap.size := by obtain ⟨m, hm⟩ := k2; exact DataW.trod_lt m _ _ _ hm
  obtain ⟨l2, rfl, i2, m2⟩ : ∃ l : List Int, len2 = l.length ∧ IntRow W x2 l ∧ IntsOk l := by
    obtain ⟨fuel, hf⟩ := h2
    obtain ⟨a, l, cap, e, hr, hk⟩ := ints_of (show DataW.trod enc Tryz.prog W 0 (fun _ => true) true fuel 23 [.slice x2 len2 cap2] = some _ from hf)
    cases e
    exact ⟨l, rfl, hr, hk⟩
  clear hA0
  refine (walk x0 cap0 l0 a1 x2 cap2 l2 W i0 w1 i2 m2).mono fun e W' ⟨he, bel⟩ => ?_
  subst he
  exact ⟨_, rfl, _, _, _, [], _, [], hW', trodAll_mk1 (shut_bool Tryz.underlying4 _), (trodAll_cons_mk (Below.trod laidOut (by kernel_rfl) (of_decide_eq_true (by kernel_rfl)) k0 bel lt0) (trodAll_cons_mk (shut_int Tryz.underlying3 w1) (trodAll_cons_mk (Below.trod laidOut (by kernel_rfl) (of_decide_eq_true (by kernel_rfl)) k2 bel lt2) trodAll_mk0))), rfl, bel.frame _, fun h => by cases h⟩

theorem laid_met (os : Os) : laidMet Tryz.prog Rows.storeCrashesRow.laid (({ World.holding Tryz.prog os ⟨#[], #[], []⟩ with heap := (((World.holding Tryz.prog os ⟨#[], #[], []⟩).heap.modify 0 fun | .cells _ t frozen => .cells #[.int .u64 1, .int .u64 10, .int .u64 100, .int .u64 1000, .int .u64 10000, .int .u64 100000, .int .u64 1000000, .int .u64 10000000, .int .u64 100000000, .int .u64 1000000000, .int .u64 10000000000, .int .u64 100000000000, .int .u64 1000000000000, .int .u64 10000000000000, .int .u64 100000000000000, .int .u64 1000000000000000, .int .u64 10000000000000000, .int .u64 100000000000000000, .int .u64 1000000000000000000, .int .u64 10000000000000000000] t frozen | o => o).modify 1 fun | .cells _ t frozen => .cells #[.int .u8 0, .int .u8 1, .int .u8 28, .int .u8 2, .int .u8 29, .int .u8 14, .int .u8 24, .int .u8 3, .int .u8 30, .int .u8 22, .int .u8 20, .int .u8 15, .int .u8 25, .int .u8 17, .int .u8 4, .int .u8 8, .int .u8 31, .int .u8 27, .int .u8 13, .int .u8 23, .int .u8 21, .int .u8 19, .int .u8 16, .int .u8 7, .int .u8 26, .int .u8 12, .int .u8 18, .int .u8 6, .int .u8 11, .int .u8 5, .int .u8 10, .int .u8 9] t frozen | o => o).modify 2 fun | .cells _ t frozen => .cells #[.int .u8 0, .int .u8 1, .int .u8 56, .int .u8 2, .int .u8 57, .int .u8 49, .int .u8 28, .int .u8 3, .int .u8 61, .int .u8 58, .int .u8 42, .int .u8 50, .int .u8 38, .int .u8 29, .int .u8 17, .int .u8 4, .int .u8 62, .int .u8 47, .int .u8 59, .int .u8 36, .int .u8 45, .int .u8 43, .int .u8 51, .int .u8 22, .int .u8 53, .int .u8 39, .int .u8 33, .int .u8 30, .int .u8 24, .int .u8 18, .int .u8 12, .int .u8 5, .int .u8 63, .int .u8 55, .int .u8 48, .int .u8 27, .int .u8 60, .int .u8 41, .int .u8 37, .int .u8 16, .int .u8 46, .int .u8 35, .int .u8 44, .int .u8 21, .int .u8 52, .int .u8 32, .int .u8 23, .int .u8 11, .int .u8 54, .int .u8 26, .int .u8 40, .int .u8 15, .int .u8 34, .int .u8 20, .int .u8 31, .int .u8 10, .int .u8 25, .int .u8 14, .int .u8 19, .int .u8 9, .int .u8 13, .int .u8 8, .int .u8 7, .int .u8 6] t frozen | o => o } : World).forCall (fun _ _ => 0) ⟨#[], #[.slice none 0 0, .int .i64 0, .slice none 0 0], []⟩).memory :=
  laidMet_of_run' 8 (by kernel_rfl) (by kernel_rfl)
theorem reads (os : Os) {H : Type} (enc : TypeId × Value → H) : ∃ places, DataW.whole enc Tryz.prog (({ World.holding Tryz.prog os ⟨#[], #[], []⟩ with heap := (((World.holding Tryz.prog os ⟨#[], #[], []⟩).heap.modify 0 fun | .cells _ t frozen => .cells #[.int .u64 1, .int .u64 10, .int .u64 100, .int .u64 1000, .int .u64 10000, .int .u64 100000, .int .u64 1000000, .int .u64 10000000, .int .u64 100000000, .int .u64 1000000000, .int .u64 10000000000, .int .u64 100000000000, .int .u64 1000000000000, .int .u64 10000000000000, .int .u64 100000000000000, .int .u64 1000000000000000, .int .u64 10000000000000000, .int .u64 100000000000000000, .int .u64 1000000000000000000, .int .u64 10000000000000000000] t frozen | o => o).modify 1 fun | .cells _ t frozen => .cells #[.int .u8 0, .int .u8 1, .int .u8 28, .int .u8 2, .int .u8 29, .int .u8 14, .int .u8 24, .int .u8 3, .int .u8 30, .int .u8 22, .int .u8 20, .int .u8 15, .int .u8 25, .int .u8 17, .int .u8 4, .int .u8 8, .int .u8 31, .int .u8 27, .int .u8 13, .int .u8 23, .int .u8 21, .int .u8 19, .int .u8 16, .int .u8 7, .int .u8 26, .int .u8 12, .int .u8 18, .int .u8 6, .int .u8 11, .int .u8 5, .int .u8 10, .int .u8 9] t frozen | o => o).modify 2 fun | .cells _ t frozen => .cells #[.int .u8 0, .int .u8 1, .int .u8 56, .int .u8 2, .int .u8 57, .int .u8 49, .int .u8 28, .int .u8 3, .int .u8 61, .int .u8 58, .int .u8 42, .int .u8 50, .int .u8 38, .int .u8 29, .int .u8 17, .int .u8 4, .int .u8 62, .int .u8 47, .int .u8 59, .int .u8 36, .int .u8 45, .int .u8 43, .int .u8 51, .int .u8 22, .int .u8 53, .int .u8 39, .int .u8 33, .int .u8 30, .int .u8 24, .int .u8 18, .int .u8 12, .int .u8 5, .int .u8 63, .int .u8 55, .int .u8 48, .int .u8 27, .int .u8 60, .int .u8 41, .int .u8 37, .int .u8 16, .int .u8 46, .int .u8 35, .int .u8 44, .int .u8 21, .int .u8 52, .int .u8 32, .int .u8 23, .int .u8 11, .int .u8 54, .int .u8 26, .int .u8 40, .int .u8 15, .int .u8 34, .int .u8 20, .int .u8 31, .int .u8 10, .int .u8 25, .int .u8 14, .int .u8 19, .int .u8 9, .int .u8 13, .int .u8 8, .int .u8 7, .int .u8 6] t frozen | o => o } : World).forCall (fun _ _ => 0) ⟨#[], #[.slice none 0 0, .int .i64 0, .slice none 0 0], []⟩).memory Tryz.f3.params.toList Rows.storeCrashesSpec.vars false (#[.slice none 0 0, .int .i64 0, .slice none 0 0] : Array Value).toList 8 = some ([.nil, .lit (.int .i64 0), .nil], [], places) :=
  ⟨[], by kernel_rfl⟩

set_option maxRecDepth 100000 in
theorem lifted (os : Os) (started : os.Started) (H : Type) (enc : TypeId × Value → H) (F : Stop.Interp) :
    ReturnsInHanded {} Tryz.checked os 3 .any ((OpenSpec.ofChange Rows.storeCrashesSpec).preRow enc Tryz.prog Tryz.f3 Rows.storeCrashesRow.domain false Rows.storeCrashesRow.laid) (((OpenSpec.ofChange Rows.storeCrashesSpec).at F).post enc Tryz.prog Tryz.f3 false true false false) := by
  obtain ⟨places, hx⟩ := reads os enc
  refine returnsInHanded_of_row (C := Tryz.checked) (s := OpenSpec.ofChange Rows.storeCrashesSpec) own started (by kernel_rfl) Tryz.func3
    (witness_row_at (enc := enc) (C := Tryz.checked) false ({ World.holding Tryz.prog os ⟨#[], #[], []⟩ with heap := (((World.holding Tryz.prog os ⟨#[], #[], []⟩).heap.modify 0 fun | .cells _ t frozen => .cells #[.int .u64 1, .int .u64 10, .int .u64 100, .int .u64 1000, .int .u64 10000, .int .u64 100000, .int .u64 1000000, .int .u64 10000000, .int .u64 100000000, .int .u64 1000000000, .int .u64 10000000000, .int .u64 100000000000, .int .u64 1000000000000, .int .u64 10000000000000, .int .u64 100000000000000, .int .u64 1000000000000000, .int .u64 10000000000000000, .int .u64 100000000000000000, .int .u64 1000000000000000000, .int .u64 10000000000000000000] t frozen | o => o).modify 1 fun | .cells _ t frozen => .cells #[.int .u8 0, .int .u8 1, .int .u8 28, .int .u8 2, .int .u8 29, .int .u8 14, .int .u8 24, .int .u8 3, .int .u8 30, .int .u8 22, .int .u8 20, .int .u8 15, .int .u8 25, .int .u8 17, .int .u8 4, .int .u8 8, .int .u8 31, .int .u8 27, .int .u8 13, .int .u8 23, .int .u8 21, .int .u8 19, .int .u8 16, .int .u8 7, .int .u8 26, .int .u8 12, .int .u8 18, .int .u8 6, .int .u8 11, .int .u8 5, .int .u8 10, .int .u8 9] t frozen | o => o).modify 2 fun | .cells _ t frozen => .cells #[.int .u8 0, .int .u8 1, .int .u8 56, .int .u8 2, .int .u8 57, .int .u8 49, .int .u8 28, .int .u8 3, .int .u8 61, .int .u8 58, .int .u8 42, .int .u8 50, .int .u8 38, .int .u8 29, .int .u8 17, .int .u8 4, .int .u8 62, .int .u8 47, .int .u8 59, .int .u8 36, .int .u8 45, .int .u8 43, .int .u8 51, .int .u8 22, .int .u8 53, .int .u8 39, .int .u8 33, .int .u8 30, .int .u8 24, .int .u8 18, .int .u8 12, .int .u8 5, .int .u8 63, .int .u8 55, .int .u8 48, .int .u8 27, .int .u8 60, .int .u8 41, .int .u8 37, .int .u8 16, .int .u8 46, .int .u8 35, .int .u8 44, .int .u8 21, .int .u8 52, .int .u8 32, .int .u8 23, .int .u8 11, .int .u8 54, .int .u8 26, .int .u8 40, .int .u8 15, .int .u8 34, .int .u8 20, .int .u8 31, .int .u8 10, .int .u8 25, .int .u8 14, .int .u8 19, .int .u8 9, .int .u8 13, .int .u8 8, .int .u8 7, .int .u8 6] t frozen | o => o } : World) #[.slice none 0 0, .int .i64 0, .slice none 0 0] rfl (by kernel_rfl) (by kernel_rfl) (by kernel_rfl)
      (OpenSpec.preRow_of_cond 8 hx (by kernel_rfl) (fun k hk => by cases hk) (by kernel_rfl) (laid_met os))) ?_
  intro W base args ds gs before hval hW _ _ _ hL _ _
  exact contract H enc W base args ds gs before hval hW hL

theorem said : Rows.StoreCrashesSaid :=
  OpenClaim.holds_of_cond 3 Tryz.f3 rfl rfl rfl rfl rfl rfl rfl ⟨rfl, rfl, rfl, rfl, rfl⟩ rfl rfl rfl rfl rfl (by kernel_rfl) Tryz.func3 (by kernel_rfl)
    (of_decide_eq_true (by kernel_rfl)) (by unfold Func.isWrapper; first | (rw [if_pos (by decide +kernel)]; kernel_rfl) | (rw [if_neg (by decide +kernel)]; exact ⟨rfl, rfl⟩))
    (fun os started H enc _ F => by rw [OpenClaim.pre_eq_preRow]; exact lifted os started H enc F)

theorem plain (f : FuncId) (fn : Func) (hf : Tryz.pinned.checked.prog.funcNamed Rows.storeCrashesRow.func = some f) (hfn : Tryz.pinned.checked.prog.funcs[f]? = some fn) :
    false = Tryz.pinned.checked.prog.looks [] ∧ ∀ (j : Nat) t, fn.params[j]? = some t → Tryz.pinned.checked.prog.wantsStandIn t = false := by
  obtain rfl : f = 3 := Option.some.inj ((show Tryz.prog.funcNamed Rows.storeCrashesRow.func = some 3 by kernel_rfl).symm.trans hf) |>.symm
  obtain rfl : fn = Tryz.f3 := (Option.some.inj (Tryz.func3.symm.trans hfn)).symm
  refine ⟨by kernel_rfl, fun j t ht => ?_⟩
  rw [Tryz.params3] at ht
  have hm : t = 22 ∨ t = 3 ∨ t = 23 := by first | simpa using Array.mem_of_getElem? ht | (have h := Array.mem_of_getElem? ht; simp only [List.mem_toArray, List.mem_cons, List.not_mem_nil, or_false] at h; rcases h with rfl | rfl | rfl <;> simp)
  rcases hm with rfl | rfl | rfl
  · exact (show Tryz.prog.wantsStandIn 22 = false by kernel_rfl)
  · exact (show Tryz.prog.wantsStandIn 3 = false by kernel_rfl)
  · exact (show Tryz.prog.wantsStandIn 23 = false by kernel_rfl)

theorem card : Rows.StoreCrashesCardSaid :=
  Claim7.holds_tied_plain_at .later [] _ _ _ _ said (fun _ h => by cases h) (by kernel_rfl) (fun _ h => by cases h) storeCrashes_row_tie rfl ⟨rfl, rfl⟩ (by kernel_rfl) rfl plain (by kernel_rfl)

end Go.Proofs.YtffnkomnldgcaaaGreatDoor.StoreCrashes
namespace Go.Proofs.YtffnkomnldgcaaaGreatDoor
theorem storeCrashes_card : Rows.StoreCrashesCardSaid := StoreCrashes.card
#print axioms storeCrashes_card
end Go.Proofs.YtffnkomnldgcaaaGreatDoor

