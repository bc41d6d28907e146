/-
  P9.1 to P9.3: whatever is appended, synced, cut, read, armed and crashed: each answer, and all files behind it, are the document's.
  No condition beside the form's own.
-/
import Derived.Test.YtilddhemngcieaaDiskTwice
import Derived.Test.YtilddhemngcieaaMd4
import Derived.Test.YtilddhemngcieaaMd5
import Derived.Test.YtilddhemngcieaaMd6
namespace Go.Proofs.Ytilddhemngcieaa.DiskPlays
open Go.ChangeShapes Go.WideShapes Go.ChangeAt Go.RowKit Go.Pal Go.Pal.Dk
open Go.ChangeMaps (open_string shut_string)
set_option linter.unusedVariables false
set_option linter.unusedSimpArgs false
theorem doD_op (d : Dk) (c : Ac) (h : c.kind = 0 ∨ c.kind = 1 ∨ c.kind = 2) : doD d c = (ByteArray.empty, opD d c.kind c.name c.data c.n) := by
  unfold doD opD
  rcases h with h | h | h <;> simp [h]
def Both (B D M : Nat) (d : Dk) (wr : World) : Prop := ∃ L v left, DkAt wr B D d L ∧ MdAt wr B M d v left
theorem Both.below {B D M : Nat} {d : Dk} {w w' : World} (h : Both B D M d w) (hb : Below w.heap.size w w') : Both B D M d w' := by
  obtain ⟨L, v, left, h1, h2⟩ := h
  exact ⟨L, v, left, h1.below hb (Nat.le_refl _), h2.below hb (Nat.le_refl _)⟩
set_option maxHeartbeats 4000000 in
set_option maxRecDepth 100000 in
theorem walk (room : Int) (x : Option Addr) (cap : Nat) (l : List Ac) (hr : (Lit.int .i64 room).wf = true) (w : World) (hl : ActsAt w x l) :
    Calls Try.prog 9 #[.int .i64 room, .slice x l.length cap] w fun e w' => e = .returned (.bool true) ∧ Below w.heap.size w w' := by
  have HA := Lib.hid awake9
  have HG := Lib.hid (great_any w x cap l hl)
  have hlen := hl.len
  unfold maxLen at hlen
  cases hgr : greatB l
  · rw [hgr] at HG
    obtain ⟨h60, hsz⟩ := great_no hgr
    clear hgr
    by_cases hrm : room < 0 ∨ 4194304 < room
    · have HNO := Lib.hid (fun w => new_no w room hrm)
      clear hl
      by_cases h0 : room < 0
      · have e1 : decide (room < 0) = true := decide_eq_true h0
        go_enter Try.func9, Try.ntmps9
        go_wp2_with fail
        refine HG.out.mono ?_
        rintro e w1 ⟨rfl, rfl⟩
        go_wp2_with fail
        refine (HA.out _).mono ?_
        rintro e w2 ⟨rfl, b2⟩
        go_wp2_with fail
        refine (HNO.out _).mono ?_
        rintro e w3 ⟨rfl, rfl⟩
        go_wp2
        go_ret
        exact ⟨rfl, b2⟩
      · have e1 : decide (room < 0) = false := decide_eq_false h0
        have e2 : decide (4194304 < room) = true := decide_eq_true (by omega)
        go_enter Try.func9, Try.ntmps9
        go_wp2_with fail
        refine HG.out.mono ?_
        rintro e w1 ⟨rfl, rfl⟩
        go_wp2_with fail
        refine (HA.out _).mono ?_
        rintro e w2 ⟨rfl, b2⟩
        go_wp2_with fail
        refine (HNO.out _).mono ?_
        rintro e w3 ⟨rfl, rfl⟩
        go_wp2
        go_ret
        exact ⟨rfl, b2⟩
    obtain ⟨R, rfl⟩ : ∃ R : Nat, room = (R : Int) := ⟨room.toNat, by omega⟩
    have hR : R ≤ 4194304 := by omega
    have e1 : decide ((R : Int) < 0) = false := decide_eq_false (by omega)
    have e2 : decide (4194304 < (R : Int)) = false := decide_eq_false (by omega)
    have HNEW := Lib.hid (fun w => new_yes w R hR)
    have HD0 := Lib.hid (fun (W : World) (hb : w.heap.size ≤ W.heap.size) => new_at W w.heap.size R hb hR)
    have HAT := Lib.hid (fun k hk => hl.at_ (k := k) hk)
    have HOK := Lib.hid hl.ok
    have HRT := Lib.hid (run_take l (newD R))
    have HRL := Lib.hid (run_len l (newD R))
    clear hl hrm
    go_enter Try.func9, Try.ntmps9
    go_wp2_with fail
    refine HG.out.mono ?_
    rintro e w1 ⟨rfl, rfl⟩
    go_wp2_with fail
    refine (HA.out _).mono ?_
    rintro e w2 ⟨rfl, b2⟩
    go_wp2_with fail
    refine (HNEW.out _).mono ?_
    rintro e w3 ⟨rfl, hw3⟩
    have hD3 := HD0.out w2 b2.size
    rw [← hw3] at hD3
    have B3 : Below w1.heap.size w1 w3 := by rw [hw3]; exact b2.alloc b2.size _
    generalize w2.heap.size = D at *
    have X3 := Lib.hid (show Both w1.heap.size D w3.heap.size (newD R) (w3.alloc (.cells #[.int .i64 (R : Int), .slice none 0 0, .bool false, .bool false, .int .i64 0] 45)) from
      ⟨_, .slice none 0 0, 0, hD3.below (new_below w3 _) (Nat.le_refl _), ⟨Blk.new w3 _ _, World.ownsRow_nil _ _ _ _, Nat.zero_le _, (fun k e => by cases e), B3.size⟩⟩)
    have BB := Lib.hid (B3.alloc B3.size (.cells #[.int .i64 (R : Int), .slice none 0 0, .bool false, .bool false, .int .i64 0] 45))
    clear hD3 B3 hw3 b2 HNEW HD0 HG
    generalize hM : w3.heap.size = M at *
    go_wp2
    generalize w3.alloc (.cells #[.int .i64 (R : Int), .slice none 0 0, .bool false, .bool false, .int .i64 0] 45) = w4 at *
    go_loopw [7] (fun i wr => ∃ k : Nat, k ≤ l.length ∧ i = .int .i64 k ∧ Both w1.heap.size D M (runD (l.take k) (newD R)) wr ∧ Below w1.heap.size w1 wr) (fun i _ => l.length - (intOf i).toNat)
    case atStart => exact ⟨0, Nat.zero_le _, rfl, X3.out, BB.out⟩
    case round =>
      obtain ⟨k, hkl, rfl, ⟨L, v, left, hD, hm⟩, hB⟩ := hrel
      have hfl : (runD (l.take k) (newD R)).files.length ≤ k := by have := HRL.out k hkl; simpa [newD] using this
      by_cases hlt : k < l.length
      · obtain ⟨b, off, rfl, hbl, hcl⟩ := HAT.out k hlt
        have hc := HOK.out l[k] (List.getElem_mem hlt)
        have HDO := Lib.hid (do_any hD (by omega) l[k] (hc.below hB) (hc.row.far hD))
        have HS := Lib.hid (HRT.out k hlt)
        have hfl2 : (runD (l.take (k + 1)) (newD R)).files.length ≤ 60 := by have := HRL.out (k + 1) (by omega); have e0 : (newD R).files.length = 0 := rfl; omega
        rw [HS.out] at hfl2
        have CW := Lib.hid (show ∀ W, Below w1.heap.size w1 W → ∀ j, j < 5 → W.cell? ⟨b, off + k * 5 + j, none⟩ = l[k].cells[j]? from fun W hW j hj => (hW.cell (p := ⟨b, off + k * 5 + j, none⟩) hbl).trans (hcl j hj))
        have cw := CW.out wr hB
        have c0 := cw 0 (by omega)
        have c1 := cw 1 (by omega)
        have c2 := cw 2 (by omega)
        have c3 := cw 3 (by omega)
        have c4 := cw 4 (by omega)
        have hz1 := hc.name
        have hz2 := hc.data
        have hcn := hc.n
        have HCR := Lib.hid hc.row
        have HCK := Lib.hid hc.keep
        have HDD := Lib.hid (doD_op (runD (l.take k) (newD R)) l[k])
        unfold Ac.val at HDO
        unfold Ac.cells at c0 c1 c2 c3 c4 HDO CW
        simp only [List.getElem?_cons_zero, List.getElem?_cons_succ, Nat.add_zero] at c0 c1 c2 c3 c4
        have HD := Lib.hid hD
        have HM := Lib.hid hm
        have HB := Lib.hid hB
        clear cw hcl hc hD hm hB
        generalize runD (l.take k) (newD R) = d0 at *
        generalize hdd : doD d0 l[k] = dd at *
        by_cases hk3 : l[k].kind = 0 ∨ l[k].kind = 1 ∨ l[k].kind = 2
        · have hd' : dd = (ByteArray.empty, opD d0 l[k].kind l[k].name l[k].data l[k].n) := HDD.out hk3
          subst hd'
          have HDOES := Lib.hid (fun (W : World) (v : Value) (left : Nat) (h : MdAt W w1.heap.size M d0 v left) (hb : w1.heap.size ≤ W.heap.size) => does_any h HD.out.good (by omega) hb l[k].kind l[k].name l[k].data l[k].n l[k].at_ l[k].keep.length l[k].cap hk3 hz1 hz2 hcn)
          clear hdd HDD HCR HCK
          simp only [] at HDO hfl2 HS
          have CWW := Lib.hid (show ∀ W, Below w1.heap.size w1 W → W.cell? ⟨b, off + k * 5, none⟩ = some (.int .i64 l[k].kind) ∧ W.cell? ⟨b, off + k * 5 + 1, none⟩ = some (.string l[k].name) ∧ W.cell? ⟨b, off + k * 5 + 2, none⟩ = some (.string l[k].data) ∧ W.cell? ⟨b, off + k * 5 + 3, none⟩ = some (.int .i64 l[k].n) ∧ W.cell? ⟨b, off + k * 5 + 4, none⟩ = some (.slice l[k].at_ l[k].keep.length l[k].cap) from
            fun W hW => ⟨CW.out W hW 0 (by omega), CW.out W hW 1 (by omega), CW.out W hW 2 (by omega), CW.out W hW 3 (by omega), CW.out W hW 4 (by omega)⟩)
          clear CW
          generalize l[k].kind = ck at *
          generalize l[k].name = cn at *
          generalize l[k].data = cd at *
          generalize l[k].n = cm at *
          generalize l[k].keep.length = cl at *
          generalize l[k].at_ = ca at *
          generalize l[k].cap = cc at *
          generalize hop : opD d0 ck cn cd cm = op at *
          obtain ⟨E, d'⟩ := op
          simp only [] at HDO hfl2 HS
          go_wp2_with fail
          refine HDO.out.mono ?_
          rintro e w5 ⟨rfl, hw5⟩
          obtain ⟨L5, D5, b5⟩ := Went.at HD.out hw5
          have M5 := HM.out.went HD.out hw5
          have B5 := HB.out.trans b5
          obtain ⟨g0, g1, g2, g3, g4⟩ := CWW.out w5 B5
          have HDS := Lib.hid (HDOES.out w5 v left M5 B5.size)
          have X5 := Lib.hid D5
          have Y5 := Lib.hid M5
          have BB5 := Lib.hid B5
          clear hw5 D5 M5 b5 B5 HDO HD HM HB HDOES c0 c1 c2 c3 c4
          have kk : (ck == 0) = true ∨ (ck == 0) = false ∧ (ck == 1) = true ∨ (ck == 0) = false ∧ (ck == 1) = false ∧ (ck == 2) = true := by rcases hk3 with h | h | h <;> simp [h]
          clear hk3
          rcases kk with k1 | ⟨k1, k2⟩ | ⟨k1, k2, k3⟩
          all_goals
            go_wp2_with fail
            refine HDS.out.mono ?_
            rintro e w6 ⟨rfl, v6, left6, M6, o6, _⟩
            simp only [hop] at M6 ⊢
            have D6 := X5.out.off_model Y5.out o6
            have B6 := BB5.out.trans (Y5.out.off_below o6 BB5.out.size)
            have SAME := Lib.hid (same_any D6 M6 (by omega))
            have X6 := Lib.hid (show Both w1.heap.size D M d' w6 from ⟨_, _, _, D6, M6⟩)
            have BB6 := Lib.hid B6
            have nEE : (E != E) = false := by simp
            have nSS : (ByteArray.empty.toList != ([] : List UInt8)) = false := by rw [ByteArray.toList_eq]; rfl
            clear D6 M6 o6 B6 HDS X5 Y5 BB5 g0 g1 g2 g3 g4 hop
            by_cases hE0 : E = 0
            · have nE0 : (E != 0) = false := by simp [hE0]
              clear hE0
              go_wp2_with fail
              refine SAME.out.mono ?_
              rintro e w7 ⟨rfl, b7⟩
              have X7 := Lib.hid (X6.out.below b7)
              have BB7 := Lib.hid (BB6.out.trans (b7.mono BB6.out.size))
              clear b7 SAME X6 BB6
              go_wp2
              go_roundw
              case rel => exact ⟨k + 1, by omega, by go_num, by rw [HS.out]; exact X7.out, BB7.out⟩
              case measure => simp [intOf]; omega
            · have nE0 : (E != 0) = true := by simp [hE0]
              clear hE0
              go_wp2_with fail
              refine SAME.out.mono ?_
              rintro e w7 ⟨rfl, b7⟩
              have X7 := Lib.hid (X6.out.below b7)
              have BB7 := Lib.hid (BB6.out.trans (b7.mono BB6.out.size))
              clear b7 SAME X6 BB6
              go_wp2
              go_roundw
              case rel => exact ⟨k + 1, by omega, by go_num, by rw [HS.out]; exact X7.out, BB7.out⟩
              case measure => simp [intOf]; omega
        · by_cases h3 : l[k].kind = 3
          · have kb0 : (l[k].kind == 0) = false := by simp [h3]
            have kb1 : (l[k].kind == 1) = false := by simp [h3]
            have kb2 : (l[k].kind == 2) = false := by simp [h3]
            have kb3 : (l[k].kind == 3) = true := by simp [h3]
            have hd' : dd = ((readD d0 l[k].name).1, (readD d0 l[k].name).2, d0) := by rw [← hdd]; simp [doD, h3]
            subst hd'
            clear hdd HDD HCR HCK hk3 h3
            simp only [] at HDO hfl2 HS
            have CWW := Lib.hid (show ∀ W, Below w1.heap.size w1 W → W.cell? ⟨b, off + k * 5, none⟩ = some (.int .i64 l[k].kind) ∧ W.cell? ⟨b, off + k * 5 + 1, none⟩ = some (.string l[k].name) ∧ W.cell? ⟨b, off + k * 5 + 2, none⟩ = some (.string l[k].data) ∧ W.cell? ⟨b, off + k * 5 + 3, none⟩ = some (.int .i64 l[k].n) ∧ W.cell? ⟨b, off + k * 5 + 4, none⟩ = some (.slice l[k].at_ l[k].keep.length l[k].cap) from
              fun W hW => ⟨CW.out W hW 0 (by omega), CW.out W hW 1 (by omega), CW.out W hW 2 (by omega), CW.out W hW 3 (by omega), CW.out W hW 4 (by omega)⟩)
            clear CW
            generalize l[k].kind = ck at *
            generalize l[k].name = cn at *
            generalize l[k].data = cd at *
            generalize l[k].n = cm at *
            generalize l[k].keep.length = cl at *
            generalize l[k].at_ = ca at *
            generalize l[k].cap = cc at *
            have HGD := Lib.hid HD.out.good
            go_wp2_with fail
            refine HDO.out.mono ?_
            rintro e w5 ⟨rfl, hw5⟩
            obtain ⟨L5, D5, b5⟩ := Went.at HD.out hw5
            have M5 := HM.out.went HD.out hw5
            have B5 := HB.out.trans b5
            obtain ⟨g0, g1, g2, g3, g4⟩ := CWW.out w5 B5
            have q2 := M5.blk.cell 2
            simp only [List.getElem?_cons_zero, List.getElem?_cons_succ] at q2
            have SAME := Lib.hid (same_any D5 M5 (by omega))
            have X6 := Lib.hid (show Both w1.heap.size D M d0 w5 from ⟨_, _, _, D5, M5⟩)
            have BB6 := Lib.hid B5
            have Y5 := Lib.hid M5
            clear hw5 D5 M5 b5 B5 HDO HD HM HB c0 c1 c2 c3 c4
            have nSS : (ByteArray.empty.toList != ([] : List UInt8)) = false := by rw [ByteArray.toList_eq]; rfl
            cases hat : atF d0.files cn with
            | none =>
              have HFD := Lib.hid (mfind_miss Y5.out cn hat)
              obtain ⟨on, hon⟩ : ∃ on, d0.on = on := ⟨_, rfl⟩
              cases on
              · have hrd : readD d0 cn = (ByteArray.empty, 6) := by unfold readD; rw [if_pos hon]
                rw [hon] at q2
                rw [hrd]
                clear hat hon hrd
                go_wp2_with fail
                refine HFD.out.mono ?_
                rintro e w6 ⟨rfl, rfl⟩
                go_wp2_with fail
                refine SAME.out.mono ?_
                rintro e w7 ⟨rfl, b7⟩
                have X7 := Lib.hid (X6.out.below b7)
                have BB7 := Lib.hid (BB6.out.trans (b7.mono BB6.out.size))
                clear b7 SAME X6 BB6
                go_wp2
                go_roundw
                case rel => exact ⟨k + 1, by omega, by go_num, by rw [HS.out]; exact X7.out, BB7.out⟩
                case measure => simp [intOf]; omega
              · have hrd : readD d0 cn = (ByteArray.empty, 10) := by unfold readD; rw [if_neg (by rw [hon]; decide), hat]
                rw [hon] at q2
                rw [hrd]
                clear hat hon hrd
                go_wp2_with fail
                refine HFD.out.mono ?_
                rintro e w6 ⟨rfl, rfl⟩
                go_wp2_with fail
                refine SAME.out.mono ?_
                rintro e w7 ⟨rfl, b7⟩
                have X7 := Lib.hid (X6.out.below b7)
                have BB7 := Lib.hid (BB6.out.trans (b7.mono BB6.out.size))
                clear b7 SAME X6 BB6
                go_wp2
                go_roundw
                case rel => exact ⟨k + 1, by omega, by go_num, by rw [HS.out]; exact X7.out, BB7.out⟩
                case measure => simp [intOf]; omega
            | some f =>
              obtain ⟨i, hi, hfi, hni⟩ := atF_at hat
              have HFD := Lib.hid (mfind_hit Y5.out cn i hi hni HGD.out.sorted)
              obtain ⟨p, cap', hv, _, hcap, hb1, hp, hc⟩ := Y5.out.open
              obtain ⟨g, rfl⟩ := hp (by omega)
              obtain ⟨_, u1, _⟩ := hc g rfl i hi
              rw [hfi] at u1
              obtain ⟨on, hon⟩ : ∃ on, d0.on = on := ⟨_, rfl⟩
              have nDD := m_neF (a := f.data)
              cases on
              · have hrd : readD d0 cn = (ByteArray.empty, 6) := by unfold readD; rw [if_pos hon]
                rw [hon] at q2
                rw [hrd]
                clear hat hon hrd hp hc hfi hni hv Y5
                go_wp2_with fail
                refine HFD.out.mono ?_
                rintro e w6 ⟨rfl, rfl⟩
                go_wp2_with fail
                refine SAME.out.mono ?_
                rintro e w7 ⟨rfl, b7⟩
                have X7 := Lib.hid (X6.out.below b7)
                have BB7 := Lib.hid (BB6.out.trans (b7.mono BB6.out.size))
                clear b7 SAME X6 BB6
                go_wp2
                go_roundw
                case rel => exact ⟨k + 1, by omega, by go_num, by rw [HS.out]; exact X7.out, BB7.out⟩
                case measure => simp [intOf]; omega
              · have hrd : readD d0 cn = (f.data, 0) := by unfold readD; rw [if_neg (by rw [hon]; decide), hat]
                rw [hon] at q2
                rw [hrd]
                clear hat hon hrd hp hc hfi hni hv Y5
                generalize f.data = fd at *
                go_wp2_with fail
                refine HFD.out.mono ?_
                rintro e w6 ⟨rfl, rfl⟩
                go_wp2_with fail
                refine SAME.out.mono ?_
                rintro e w7 ⟨rfl, b7⟩
                have X7 := Lib.hid (X6.out.below b7)
                have BB7 := Lib.hid (BB6.out.trans (b7.mono BB6.out.size))
                clear b7 SAME X6 BB6
                go_wp2
                go_roundw
                case rel => exact ⟨k + 1, by omega, by go_num, by rw [HS.out]; exact X7.out, BB7.out⟩
                case measure => simp [intOf]; omega
          · by_cases h4 : l[k].kind = 4
            · have hd' : dd = (ByteArray.empty, 0, armD d0 l[k].n) := by rw [← hdd]; simp [doD, h4]
              have kb0 : (l[k].kind == 0) = false := by simp [h4]
              have kb1 : (l[k].kind == 1) = false := by simp [h4]
              have kb2 : (l[k].kind == 2) = false := by simp [h4]
              have kb3 : (l[k].kind == 3) = false := by simp [h4]
              have kb4 : (l[k].kind == 4) = true := by simp [h4]
              subst hd'
              clear hdd HDD HCR HCK hk3 h3 h4
              simp only [] at HDO hfl2 HS
              have CWW := Lib.hid (show ∀ W, Below w1.heap.size w1 W → W.cell? ⟨b, off + k * 5, none⟩ = some (.int .i64 l[k].kind) ∧ W.cell? ⟨b, off + k * 5 + 1, none⟩ = some (.string l[k].name) ∧ W.cell? ⟨b, off + k * 5 + 2, none⟩ = some (.string l[k].data) ∧ W.cell? ⟨b, off + k * 5 + 3, none⟩ = some (.int .i64 l[k].n) ∧ W.cell? ⟨b, off + k * 5 + 4, none⟩ = some (.slice l[k].at_ l[k].keep.length l[k].cap) from
                fun W hW => ⟨CW.out W hW 0 (by omega), CW.out W hW 1 (by omega), CW.out W hW 2 (by omega), CW.out W hW 3 (by omega), CW.out W hW 4 (by omega)⟩)
              clear CW
              generalize l[k].kind = ck at *
              generalize l[k].name = cn at *
              generalize l[k].data = cd at *
              generalize l[k].n = cm at *
              generalize l[k].keep.length = cl at *
              generalize l[k].at_ = ca at *
              generalize l[k].cap = cc at *
              go_wp2_with fail
              refine HDO.out.mono ?_
              rintro e w5 ⟨rfl, hw5⟩
              obtain ⟨L5, D5, b5⟩ := Went.at HD.out hw5
              have M5 := HM.out.went HD.out hw5
              have B5 := HB.out.trans b5
              obtain ⟨g0, g1, g2, g3, g4⟩ := CWW.out w5 B5
              have HBM := Lib.hid (show b ≠ M ∧ M ≠ b by have := M5.mbase; exact ⟨by omega, by omega⟩)
              have q3 := M5.blk.cell 3
              have q4 := M5.blk.cell 4
              have y3 := M5.blk.frozen 3
              have y4 := M5.blk.frozen 4
              simp only [List.getElem?_cons_zero, List.getElem?_cons_succ] at q3 q4
              obtain ⟨hbM, hMb⟩ := HBM.out
              have X5 := Lib.hid D5
              have Y5 := Lib.hid M5
              have BB5 := Lib.hid B5
              clear hw5 D5 M5 b5 B5 HDO HD HM HB c0 c1 c2 c3 c4 HBM
              have nSS : (ByteArray.empty.toList != ([] : List UInt8)) = false := by rw [ByteArray.toList_eq]; rfl
              have o6 : Off (MFoot M v) w5 ((w5.setCell ⟨M, 3, none⟩ (.bool true)).setCell ⟨M, 4, none⟩ (.int .i64 (max cm 0))) := ((Off.refl _ w5).set (p := ⟨M, 3, none⟩) (.inr (.inl rfl)) _).set (p := ⟨M, 4, none⟩) (.inr (.inl rfl)) _
              have M6 : MdAt ((w5.setCell ⟨M, 3, none⟩ (.bool true)).setCell ⟨M, 4, none⟩ (.int .i64 (max cm 0))) w1.heap.size M (armD d0 cm) v cm.toNat := by
                refine Y5.out.head (on := d0.on) (arm := some cm.toNat) (by omega) (by intro j e; cases e; rfl) (grow_set (grow_set (World.grownBy.refl w5 _) rfl) rfl) ?_
                have hb6 := (Y5.out.blk.set 3 (.bool true)).set 4 (.int .i64 (max cm 0))
                rw [show (.int .i64 (max cm 0) : Value) = .int .i64 ((cm.toNat : Nat) : Int) by congr 1; omega] at hb6 ⊢
                exact hb6
              have D6 := X5.out.off_model Y5.out o6
              have B6 := BB5.out.trans (Y5.out.off_below o6 BB5.out.size)
              have SAME := Lib.hid (same_any D6 M6 (by omega))
              have X6 := Lib.hid (show Both w1.heap.size D M (armD d0 cm) _ from ⟨_, _, _, D6, M6⟩)
              have BB6 := Lib.hid B6
              clear D6 M6 o6 B6 X5 Y5 BB5
              go_wp2_with fail
              refine SAME.out.mono ?_
              rintro e w7 ⟨rfl, b7⟩
              have X7 := Lib.hid (X6.out.below b7)
              have BB7 := Lib.hid (BB6.out.trans (b7.mono BB6.out.size))
              clear b7 SAME X6 BB6
              go_wp2
              go_roundw
              case rel => exact ⟨k + 1, by omega, by go_num, by rw [HS.out]; exact X7.out, BB7.out⟩
              case measure => simp [intOf]; omega
            · have hd' : dd = (ByteArray.empty, 0, crashD d0 l[k].keep) := by
                rw [← hdd]
                unfold doD
                rw [if_neg (fun e => hk3 (.inl e)), if_neg (fun e => hk3 (.inr (.inl e))), if_neg (fun e => hk3 (.inr (.inr e))), if_neg h3, if_neg h4]
              have kb0 : (l[k].kind == 0) = false := by simp; exact fun e => hk3 (.inl e)
              have kb1 : (l[k].kind == 1) = false := by simp; exact fun e => hk3 (.inr (.inl e))
              have kb2 : (l[k].kind == 2) = false := by simp; exact fun e => hk3 (.inr (.inr e))
              have kb3 : (l[k].kind == 3) = false := by simp [h3]
              have kb4 : (l[k].kind == 4) = false := by simp [h4]
              subst hd'
              clear hdd HDD hk3 h3 h4
              simp only [] at HDO hfl2 HS
              have CWW := Lib.hid (show ∀ W, Below w1.heap.size w1 W → W.cell? ⟨b, off + k * 5, none⟩ = some (.int .i64 l[k].kind) ∧ W.cell? ⟨b, off + k * 5 + 1, none⟩ = some (.string l[k].name) ∧ W.cell? ⟨b, off + k * 5 + 2, none⟩ = some (.string l[k].data) ∧ W.cell? ⟨b, off + k * 5 + 3, none⟩ = some (.int .i64 l[k].n) ∧ W.cell? ⟨b, off + k * 5 + 4, none⟩ = some (.slice l[k].at_ l[k].keep.length l[k].cap) from
                fun W hW => ⟨CW.out W hW 0 (by omega), CW.out W hW 1 (by omega), CW.out W hW 2 (by omega), CW.out W hW 3 (by omega), CW.out W hW 4 (by omega)⟩)
              clear CW
              have HGD := Lib.hid HD.out.good
              have HKE := Lib.hid (show l[k].keep.length = l[k].keep.length from rfl)
              generalize l[k].kind = ck at *
              generalize l[k].name = cn at *
              generalize l[k].data = cd at *
              generalize l[k].n = cm at *
              generalize l[k].keep = kp at *
              generalize l[k].at_ = ca at *
              generalize l[k].cap = cc at *
              go_wp2_with fail
              refine HDO.out.mono ?_
              rintro e w5 ⟨rfl, hw5⟩
              obtain ⟨L5, D5, b5⟩ := Went.at HD.out hw5
              have M5 := HM.out.went HD.out hw5
              have B5 := HB.out.trans b5
              obtain ⟨g0, g1, g2, g3, g4⟩ := CWW.out w5 B5
              have HMC := Lib.hid (mcrash_any M5 (by omega) kp ca cc (HCR.out.below B5) HCK.out.1 (fun b' off' hne e hf => by
                  have h1 := M5.base hf
                  rcases HCR.out with h0 | ⟨b'', off'', e', hlt', _⟩
                  · exact hne h0
                  · rw [e] at e'; cases e'; omega) HCK.out.2 (fun f hf => ⟨HGD.out.safe f hf, by have h1 := data_le_used hf; have h2 := HGD.out.used; have h3 := HGD.out.room; omega⟩))
              have X5 := Lib.hid D5
              have Y5 := Lib.hid M5
              have BB5 := Lib.hid B5
              clear hw5 D5 M5 b5 B5 HDO HD HM HB c0 c1 c2 c3 c4 HKE
              go_wp2_with fail
              refine HMC.out.mono ?_
              rintro e w6 ⟨rfl, M6, o6⟩
              have D6 := X5.out.off_model Y5.out o6
              have B6 := BB5.out.trans (Y5.out.off_below o6 BB5.out.size)
              have SAME := Lib.hid (same_any D6 M6 (by omega))
              have X6 := Lib.hid (show Both w1.heap.size D M (crashD d0 kp) w6 from ⟨_, _, _, D6, M6⟩)
              have BB6 := Lib.hid B6
              clear D6 M6 o6 B6 X5 Y5 BB5 HMC
              have nSS : (ByteArray.empty.toList != ([] : List UInt8)) = false := by rw [ByteArray.toList_eq]; rfl
              go_wp2_with fail
              refine SAME.out.mono ?_
              rintro e w7 ⟨rfl, b7⟩
              have X7 := Lib.hid (X6.out.below b7)
              have BB7 := Lib.hid (BB6.out.trans (b7.mono BB6.out.size))
              clear b7 SAME X6 BB6
              go_wp2
              go_roundw
              case rel => exact ⟨k + 1, by omega, by go_num, by rw [HS.out]; exact X7.out, BB7.out⟩
              case measure => simp [intOf]; omega
      · have HB := Lib.hid hB
        clear hD hm hB
        go_wp2
        go_ret
        exact ⟨rfl, HB.out⟩
  · rw [hgr] at HG
    clear hgr
    go_enter Try.func9, Try.ntmps9
    go_wp2_with fail
    refine HG.out.mono ?_
    rintro e w1 ⟨rfl, rfl⟩
    go_wp2_with fail
    refine (HA.out _).mono ?_
    rintro e w2 ⟨rfl, b2⟩
    go_wp2
    go_ret
    exact ⟨rfl, b2⟩

theorem own : ownKnob Try.prog.godebug = none := by kernel_rfl
theorem laidOut : laidOutB Try.prog = true := by kernel_rfl

set_option maxRecDepth 100000 in
theorem lifted (os : Os) (started : os.Started) (H : Type) (enc : TypeId × Value → H) :
    ReturnsInHanded {} Try.checked os 9 .any (Rows.diskPlaysSpec.pre6 enc Try.prog Try.f9 Rows.diskPlaysRow.domain false) (Rows.diskPlaysSpec.post enc Try.prog Try.f9 false true false false) := by
  refine returnsInHanded_of_change_sized (C := Try.checked) own started (by kernel_rfl) Try.func9
    (ChangeSpec.witness6 (enc := enc) (C := Try.checked) false ⟨#[], #[.int .i64 0, .slice none 0 0], []⟩ 8 (by kernel_rfl) (by kernel_rfl) (by kernel_rfl) (by kernel_rfl)) ?_
  intro W base args ds gs before hval0 hW _ hsz0 _
  have hsz : (DataW.weightsEach Try.prog (Try.f9.params.toList ++ Rows.diskPlaysSpec.plain.varTypes Try.prog) (ds ++ gs)).all (· ≤ reachBytes) = true := hsz0
  clear hsz0
  have hval : ∀ (j : Nat) t v, Try.f9.params[j]? = some t → args[j]? = some v → Value.okWide Try.prog W .any base t v := hval0
  have hW' := hW
  obtain ⟨p, q, hA0, hV, rfl, hfz, hnd⟩ := hW
  have hA : DataW.TrodAll enc Try.prog W 0 (fun _ => true) true Try.f9.params.toList args.toList ds p := hA0
  rw [Try.params9] at hA hval hsz
  obtain ⟨v0, vs0, d0, ds0, p0, q0, hargs, rfl, rfl, h0, r0⟩ := trodAll_cons hA
  obtain ⟨v1, vs1, d1, ds1, p1, q1, rfl, rfl, rfl, h1, r1⟩ := trodAll_cons r0
  obtain ⟨rfl, rfl, rfl⟩ := trodAll_nil r1
  obtain rfl : args = #[v0, v1] := by cases args; simp_all
  obtain ⟨rfl, rfl⟩ := trodVars_none hV
  obtain ⟨a0, rfl, rfl, rfl, w0⟩ := open_int Try.underlying3 (hval 0 3 v0 rfl rfl) h0
  obtain ⟨x1, len1, cap1, rfl⟩ := okWide_slice Try.underlying38 (hval 1 38 v1 rfl rfl)
  have k1 := h1
  have lt1 : ∀ x ∈ p1, x.block < W.heap.size := by obtain ⟨m, hm⟩ := k1; exact DataW.trod_lt m _ _ _ hm
  obtain ⟨l1, rfl, i1⟩ : ∃ l : List Ac, len1 = l.length ∧ ActsAt W x1 l := by
    obtain ⟨fuel, hf⟩ := h1
    exact acts_of (show DataW.trod enc Try.prog W 0 (fun _ => true) true fuel 38 [.slice x1 len1 cap1] = some _ from hf)
  clear hA0 hval0
  refine (walk a0 x1 cap1 l1 w0 W i1).mono fun e W' ⟨he, bel⟩ => ?_
  subst he
  exact ⟨_, rfl, _, _, _, [], _, [], hW', trodAll_mk1 (shut_bool Try.underlying4 _), (trodAll_cons_mk (shut_int Try.underlying3 w0) (trodAll_cons_mk (Below.trod laidOut (by kernel_rfl) (of_decide_eq_true (by kernel_rfl)) k1 bel lt1) trodAll_mk0)), rfl, bel.frame _, fun h => by cases h⟩

theorem over : Rows.diskPlaysRow.holds Try.pinned (OpenSpec.ofChange Rows.diskPlaysSpec) :=
  OpenClaim.holds_of_wide 9 Try.f9 rfl rfl rfl rfl rfl rfl rfl ⟨rfl, rfl, rfl, rfl, rfl⟩ rfl rfl rfl rfl rfl (by kernel_rfl) Try.func9 (by kernel_rfl)
    (of_decide_eq_true (by kernel_rfl)) (by unfold Func.isWrapper; first | (rw [if_pos (by decide +kernel)]; kernel_rfl) | (rw [if_neg (by decide +kernel)]; exact ⟨rfl, rfl⟩))
    (fun os started H enc _ => lifted os started H enc)

end Go.Proofs.Ytilddhemngcieaa.DiskPlays
namespace Go.Proofs.Ytilddhemngcieaa
theorem diskPlays_holds : Rows.DiskPlaysSaid := DiskPlays.over
#print axioms diskPlays_holds
end Go.Proofs.Ytilddhemngcieaa

