/-
  EventTurned: a signed event of which the content is another right one isn't signed, or else two unlike texts that were summed on the ways have one digest, or a chain comes round.
  No condition but what the row itself says.
-/
import Derived.Test.YtggfmnmopfdiaaaGreatDoorSg3
import Derived.Test.YtggfmnmopfdiaaaGreatDoorE5b
import Derived.Test.YtggfmnmopfdiaaaGreatDoorE6
import Derived.Test.YtggfmnmopfdiaaaGreatDoorE4
import Derived.Test.YtggfmnmopfdiaaaGreatDoorE14
import Derived.Test.YtggfmnmopfdiaaaGreatDoorEOpen
import Derived.Test.YtggfmnmopfdiaaaGreatDoorB6
import Derived.Test.YtggfmnmopfdiaaaGreatDoorB8
import Derived.Test.YtggfmnmopfdiaaaGreatDoorB11
import Derived.Test.YtggfmnmopfdiaaaGreatDoorB12
import Derived.Test.YtggfmnmopfdiaaaGreatDoorApr
import Derived.Test.YtggfmnmopfdiaaaGreatDoorLaid
import Derived.Deep.RegionHeld3
import Derived.Deep.RegionLaw
import Derived.BigQuiet
import Derived.Deep.QuietTactic
namespace Go.Proofs.YtggfmnmopfdiaaaGreatDoor.EventTurned
open Go.ChangeShapes Go.WideShapes Go.ChangeAt Go.RowKit Go.Pal Go.Pal.Fr Go.Pal.Ev
open Go.ChangeMaps (open_string shut_string)
set_option linter.unusedVariables false

theorem sig_ok (seed : ByteArray) (h leaf : Nat) (m : ByteArray) (hh : h ≤ 4) (hl : leaf < 2 ^ h) : SigOk (sigB seed h leaf m) h leaf :=
  ⟨hh, sigB_size _ _ _ _ hl, (sig_leaf _ _ _ _ (by have := pow_le16 h hh; omega)).symm, hl⟩
theorem sig_right (seed : ByteArray) (h leaf : Nat) (m : ByteArray) (hl : leaf < 2 ^ h) : sigTop m (sigB seed h leaf m) h leaf = keyB seed h := by
  rw [sigTop, sig_vals, sig_path _ _ _ _ hl, signed_top _ _ _ _ hl, keyB]
theorem beqT6 (p : ByteArray) : (p.toList == p.toList) = true := (beqT _ _).2 rfl
theorem below_drewN6 {n : Nat} {w w' : World} (h : Below n w w') (k : Nat) : Below n w (w'.drewN k) := ⟨h.os, h.tape, h.output, h.size, h.block⟩
theorem okSig {e : E} {s : ByteArray} (h : evOk (noSig e) = true) (hs : s.size ≤ 65535) : evOk { e with sig := s } = true := by
  have h2 := evOk_all h
  simp only [noSig] at h2
  simp only [evOk, parOk, h2.1, h2.2.1, h2.2.2.1, h2.2.2.2.1, h2.2.2.2.2.1, hs, decide_true, Bool.and_self]


set_option maxHeartbeats 4000000 in
set_option maxRecDepth 100000 in
theorem walk_form (e : E) (a : Option Addr) (c : Nat) (seed body : ByteArray) (kd : Int) (w : World) (he : Came w e a c) (hz : seed.size ≤ maxLen) (hz2 : body.size ≤ maxLen) (wk : (Lit.int .i64 kd).wf = true) (ht : Tabs w) (hok : evOk (noSig (authE e (keyB seed 0))) = false) :
    Calls Tryz.prog 4 #[evV e a c, .string seed, .string body, .int .i64 kd] w fun r w' => r = .returned (.bool true) ∧ Below w.heap.size w w' := by
  have HG1 := Lib.hid (great_len (w.alloc (.cells #[.int .i64 e.kind, .string e.author, .slice a e.parents.length c, .string e.body, .string e.sig] 24)) e a c (he.row.below (alloc_below w _)) he.len he.each)
  have HAW := Lib.hid (fun (W : World) (hb : Below w.heap.size w W) => awake6 W (ht.below hb))
  have HROW := Lib.hid (fun W (hb : Below w.heap.size w W) => he.row.below hb)
  have HT := Lib.hid ht
  have HE := Lib.hid he
  have hnot : ∀ (x : Bool) (w : World), (Op.unary .not (.bool x)).run Tryz.prog w = .ok (.bool (!x)) w := fun _ _ => rfl
  clear he ht hz hz2 wk
  unfold evV at HG1 ⊢
  go_enter Tryz.func4, Tryz.ntmps4
  go_wp2_with fail
  refine HG1.out.mono ?_
  rintro r w1 ⟨⟨g, rfl, hlen⟩, q1⟩
  have B1 := Lib.hid ((alloc_below w _).trans (q1.mono (alloc_below w _).size))
  have SRC1 := Lib.hid (show Blk w1 w.heap.size 24 [.int .i64 e.kind, .string e.author, .slice a e.parents.length c, .string e.body, .string e.sig] from (Blk.new w _ [_, _, _, _, _]).below q1 (by simp))
  clear q1 HG1
  cases g
  case true =>
    have HA1 := Lib.hid (HAW.out w1 B1.out)
    skip
    go_wp2_with fail
    refine HA1.out.mono ?_
    rintro r w2 ⟨rfl, q2⟩
    go_wp2
    go_ret
    exact ⟨rfl, B1.out.trans (q2.mono B1.out.size)⟩
  have HLEN := Lib.hid (hlen rfl)
  clear hlen
  by_cases h300 : 300 < seed.size
  · have d1 : decide (300 < (seed.size : Int)) = true := decide_eq_true (by omega)
    have HA1 := Lib.hid (HAW.out w1 B1.out)
    clear h300
    go_wp2_with fail
    refine HA1.out.mono ?_
    rintro r w2 ⟨rfl, q2⟩
    go_wp2
    go_ret
    exact ⟨rfl, B1.out.trans (q2.mono B1.out.size)⟩
  have d1 : decide (300 < (seed.size : Int)) = false := decide_eq_false (by omega)
  by_cases h500 : 500 < body.size
  · have d2 : decide (500 < (body.size : Int)) = true := decide_eq_true (by omega)
    have HA1 := Lib.hid (HAW.out w1 B1.out)
    clear h500 h300
    go_wp2_with fail
    refine HA1.out.mono ?_
    rintro r w2 ⟨rfl, q2⟩
    go_wp2
    go_ret
    exact ⟨rfl, B1.out.trans (q2.mono B1.out.size)⟩
  have d2 : decide (500 < (body.size : Int)) = false := decide_eq_false (by omega)
  have HSD := Lib.hid h300
  have HBD := Lib.hid h500
  have HA1 := Lib.hid (HAW.out w1 B1.out)
  clear h300 h500
  go_wp2_with fail
  refine HA1.out.mono ?_
  rintro r w2 ⟨rfl, q2⟩
  have B2 := Lib.hid (B1.out.trans (q2.mono B1.out.size))
  have SRC2 := Lib.hid (SRC1.out.below q2 SRC1.out.lt)
  have HN := Lib.hid (new_yes w2 seed 0 0 (by omega) (by decide) (by have := HSD.out; omega))
  clear q2 SRC1 B1 HA1 HAW
  go_wp2_with fail
  refine HN.out.mono ?_
  rintro r w9 ⟨⟨kb, rfl, hk3, hkb⟩, b3⟩
  have B9 := Lib.hid (B2.out.trans (b3.mono B2.out.size))
  have SRC9 := Lib.hid (SRC2.out.below b3 SRC2.out.lt)
  have HKB := Lib.hid (show w.heap.size < kb from Nat.lt_of_lt_of_le SRC2.out.lt hkb)
  have K9 := Lib.hid (show KeyFresh w9 kb seed 0 0 from hk3)
  have HROW9 := Lib.hid (fun W (hg : w9.grownBy W (some kb)) => rowGrown (HROW.out w9 B9.out) hg (fun x off hx h0 => by
    rcases HE.out.row with h1 | ⟨x', off', e', hx', _⟩
    · exact absurd h1 h0
    · rw [hx] at e'; cases e'; have := HKB.out; omega))
  have CAME9 := Lib.hid (HE.out.below B9.out)
  have T9 := Lib.hid (TabsK.of HT.out B9.out (Nat.le_of_lt HKB.out))
  clear hk3 hkb b3 SRC2 B2 HN
  have x0 : w9.cell? ⟨w.heap.size, 0, none⟩ = some (.int .i64 e.kind) := SRC9.out.cell 0
  have x1 : w9.cell? ⟨w.heap.size, 1, none⟩ = some (.string e.author) := SRC9.out.cell 1
  have x2 : w9.cell? ⟨w.heap.size, 2, none⟩ = some (.slice a e.parents.length c) := SRC9.out.cell 2
  have x3 : w9.cell? ⟨w.heap.size, 3, none⟩ = some (.string e.body) := SRC9.out.cell 3
  have x4 : w9.cell? ⟨w.heap.size, 4, none⟩ = some (.string e.sig) := SRC9.out.cell 4
  go_wp2_with fail
  have hsg := evsign_form w9 e a c kb seed 0 0 CAME9.out HROW9.out (by omega) (by have := HSD.out; omega) T9.out (.inl K9.out) hok
  unfold evV at hsg
  simp only [zero, List.length_nil] at hsg
  refine hsg.mono ?_
  rintro r w10 ⟨rfl, k10, g10⟩
  have B10 := Lib.hid (B9.out.grown g10 B9.out.size (fun k hk => by cases hk; exact Nat.le_of_lt HKB.out))
  clear hsg k10 g10 x0 x1 x2 x3 x4
  go_wp2
  go_ret
  exact ⟨rfl, B10.out.alloc B10.out.size _⟩


set_option maxHeartbeats 4000000 in
set_option maxRecDepth 100000 in
theorem walk_ok (e : E) (a : Option Addr) (c : Nat) (seed body : ByteArray) (kd : Int) (w : World) (he : Came w e a c) (hz : seed.size ≤ maxLen) (hz2 : body.size ≤ maxLen) (wk : (Lit.int .i64 kd).wf = true) (ht : Tabs w) (hok : evOk (noSig (authE e (keyB seed 0))) = true) :
    Calls Tryz.prog 4 #[evV e a c, .string seed, .string body, .int .i64 kd] w fun r w' => r = .returned (.bool true) ∧ Below w.heap.size w w' := by
  have HG1 := Lib.hid (great_len (w.alloc (.cells #[.int .i64 e.kind, .string e.author, .slice a e.parents.length c, .string e.body, .string e.sig] 24)) e a c (he.row.below (alloc_below w _)) he.len he.each)
  have HAW := Lib.hid (fun (W : World) (hb : Below w.heap.size w W) => awake6 W (ht.below hb))
  have HROW := Lib.hid (fun W (hb : Below w.heap.size w W) => he.row.below hb)
  have HT := Lib.hid ht
  have HE := Lib.hid he
  have hnot : ∀ (x : Bool) (w : World), (Op.unary .not (.bool x)).run Tryz.prog w = .ok (.bool (!x)) w := fun _ _ => rfl
  clear he ht hz hz2 wk
  unfold evV at HG1 ⊢
  go_enter Tryz.func4, Tryz.ntmps4
  go_wp2_with fail
  refine HG1.out.mono ?_
  rintro r w1 ⟨⟨g, rfl, hlen⟩, q1⟩
  have B1 := Lib.hid ((alloc_below w _).trans (q1.mono (alloc_below w _).size))
  have SRC1 := Lib.hid (show Blk w1 w.heap.size 24 [.int .i64 e.kind, .string e.author, .slice a e.parents.length c, .string e.body, .string e.sig] from (Blk.new w _ [_, _, _, _, _]).below q1 (by simp))
  clear q1 HG1
  cases g
  case true =>
    have HA1 := Lib.hid (HAW.out w1 B1.out)
    skip
    go_wp2_with fail
    refine HA1.out.mono ?_
    rintro r w2 ⟨rfl, q2⟩
    go_wp2
    go_ret
    exact ⟨rfl, B1.out.trans (q2.mono B1.out.size)⟩
  have HLEN := Lib.hid (hlen rfl)
  clear hlen
  by_cases h300 : 300 < seed.size
  · have d1 : decide (300 < (seed.size : Int)) = true := decide_eq_true (by omega)
    have HA1 := Lib.hid (HAW.out w1 B1.out)
    clear h300
    go_wp2_with fail
    refine HA1.out.mono ?_
    rintro r w2 ⟨rfl, q2⟩
    go_wp2
    go_ret
    exact ⟨rfl, B1.out.trans (q2.mono B1.out.size)⟩
  have d1 : decide (300 < (seed.size : Int)) = false := decide_eq_false (by omega)
  by_cases h500 : 500 < body.size
  · have d2 : decide (500 < (body.size : Int)) = true := decide_eq_true (by omega)
    have HA1 := Lib.hid (HAW.out w1 B1.out)
    clear h500 h300
    go_wp2_with fail
    refine HA1.out.mono ?_
    rintro r w2 ⟨rfl, q2⟩
    go_wp2
    go_ret
    exact ⟨rfl, B1.out.trans (q2.mono B1.out.size)⟩
  have d2 : decide (500 < (body.size : Int)) = false := decide_eq_false (by omega)
  have HSD := Lib.hid h300
  have HBD := Lib.hid h500
  have HA1 := Lib.hid (HAW.out w1 B1.out)
  clear h300 h500
  go_wp2_with fail
  refine HA1.out.mono ?_
  rintro r w2 ⟨rfl, q2⟩
  have B2 := Lib.hid (B1.out.trans (q2.mono B1.out.size))
  have SRC2 := Lib.hid (SRC1.out.below q2 SRC1.out.lt)
  have HN := Lib.hid (new_yes w2 seed 0 0 (by omega) (by decide) (by have := HSD.out; omega))
  clear q2 SRC1 B1 HA1 HAW
  go_wp2_with fail
  refine HN.out.mono ?_
  rintro r w9 ⟨⟨kb, rfl, hk3, hkb⟩, b3⟩
  have B9 := Lib.hid (B2.out.trans (b3.mono B2.out.size))
  have SRC9 := Lib.hid (SRC2.out.below b3 SRC2.out.lt)
  have HKB := Lib.hid (show w.heap.size < kb from Nat.lt_of_lt_of_le SRC2.out.lt hkb)
  have K9 := Lib.hid (show KeyFresh w9 kb seed 0 0 from hk3)
  have HROW9 := Lib.hid (fun W (hg : w9.grownBy W (some kb)) => rowGrown (HROW.out w9 B9.out) hg (fun x off hx h0 => by
    rcases HE.out.row with h1 | ⟨x', off', e', hx', _⟩
    · exact absurd h1 h0
    · rw [hx] at e'; cases e'; have := HKB.out; omega))
  have CAME9 := Lib.hid (HE.out.below B9.out)
  have T9 := Lib.hid (TabsK.of HT.out B9.out (Nat.le_of_lt HKB.out))
  clear hk3 hkb b3 SRC2 B2 HN
  have x0 : w9.cell? ⟨w.heap.size, 0, none⟩ = some (.int .i64 e.kind) := SRC9.out.cell 0
  have x1 : w9.cell? ⟨w.heap.size, 1, none⟩ = some (.string e.author) := SRC9.out.cell 1
  have x2 : w9.cell? ⟨w.heap.size, 2, none⟩ = some (.slice a e.parents.length c) := SRC9.out.cell 2
  have x3 : w9.cell? ⟨w.heap.size, 3, none⟩ = some (.string e.body) := SRC9.out.cell 3
  have x4 : w9.cell? ⟨w.heap.size, 4, none⟩ = some (.string e.sig) := SRC9.out.cell 4
  go_wp2_with fail
  have hsg := evsign_ok w9 e a c kb seed 0 0 CAME9.out HROW9.out (by omega) (by have := HSD.out; omega) T9.out (.inl K9.out) (by decide) hok
  obtain ⟨C, hC⟩ : ∃ C, C = evC (authE e (keyB seed 0)) := ⟨_, rfl⟩
  obtain ⟨S, hS⟩ : ∃ S, S = sigB seed 0 0 C := ⟨_, rfl⟩
  rw [← hC, ← hS] at hsg
  have hCz := evC_size hok
  rw [← hC] at hCz
  have hok1 := sig_ok seed 0 0 C (by omega) (by decide)
  have hrt := sig_right seed 0 0 C (by decide)
  rw [← hS] at hok1 hrt
  have HC2 := Lib.hid hC
  clear hS hC
  unfold evV authE at hsg
  simp only [] at hsg
  refine hsg.mono ?_
  rintro r w10 ⟨⟨a', c', rfl, r', hc', hf'⟩, k10, g10⟩
  have R10 := Lib.hid r'
  have HC10 := Lib.hid hc'
  have B10 := Lib.hid (B9.out.grown g10 B9.out.size (fun k hk => by cases hk; exact Nat.le_of_lt HKB.out))
  clear hsg r' hc' hf' g10 k10 x0 x1 x2 x3 x4
  go_wp2
  obtain ⟨w11, hw11⟩ : ∃ W, W = (w10.alloc (.cells #[.int .i64 e.kind, .string (keyB seed 0), .slice a' e.parents.length c', .string e.body, .string S] 24)).alloc (.cells #[.int .i64 kd, .string (keyB seed 0), .slice a' e.parents.length c', .string body, .string S] 24) := ⟨_, rfl⟩
  have GOT := Lib.hid (show Blk w11 w10.heap.size 24 [.int .i64 e.kind, .string (keyB seed 0), .slice a' e.parents.length c', .string e.body, .string S] by rw [hw11]; exact (Blk.new w10 _ [_, _, _, _, _]).alloc _)
  have TUR := Lib.hid (show Blk w11 (w10.heap.size + 1) 24 [.int .i64 kd, .string (keyB seed 0), .slice a' e.parents.length c', .string body, .string S] by rw [hw11]; exact Blk.new' _ _ [_, _, _, _, _] (by simp))
  have N11 := Lib.hid (show Below w10.heap.size w10 w11 by rw [hw11]; exact (alloc_below w10 _).alloc (by simp) _)
  rw [← hw11]
  clear hw11
  have B11 := Lib.hid (B10.out.trans (N11.out.mono B10.out.size))
  have R11 := Lib.hid (fun W (hb : Below w11.heap.size w11 W) => (R10.out.below N11.out).below hb)
  have SALL := Lib.hid (fun w' (hb : Below w11.heap.size w11 w') => (show w'.cell? ⟨w10.heap.size, 0, none⟩ = some (.int .i64 e.kind) ∧ w'.cell? ⟨w10.heap.size, 1, none⟩ = some (.string (keyB seed 0)) ∧ w'.cell? ⟨w10.heap.size, 2, none⟩ = some (.slice a' e.parents.length c') ∧ w'.cell? ⟨w10.heap.size, 3, none⟩ = some (.string e.body) ∧ w'.cell? ⟨w10.heap.size, 4, none⟩ = some (.string S) ∧ w'.cell? ⟨w10.heap.size + 1, 0, none⟩ = some (.int .i64 kd) ∧ w'.cell? ⟨w10.heap.size + 1, 1, none⟩ = some (.string (keyB seed 0)) ∧ w'.cell? ⟨w10.heap.size + 1, 2, none⟩ = some (.slice a' e.parents.length c') ∧ w'.cell? ⟨w10.heap.size + 1, 3, none⟩ = some (.string body) ∧ w'.cell? ⟨w10.heap.size + 1, 4, none⟩ = some (.string S) ∧ Below w11.heap.size w11 w' from ⟨(hb.cell (p := ⟨w10.heap.size, 0, none⟩) GOT.out.lt).trans (GOT.out.cell 0), (hb.cell (p := ⟨w10.heap.size, 1, none⟩) GOT.out.lt).trans (GOT.out.cell 1), (hb.cell (p := ⟨w10.heap.size, 2, none⟩) GOT.out.lt).trans (GOT.out.cell 2), (hb.cell (p := ⟨w10.heap.size, 3, none⟩) GOT.out.lt).trans (GOT.out.cell 3), (hb.cell (p := ⟨w10.heap.size, 4, none⟩) GOT.out.lt).trans (GOT.out.cell 4), (hb.cell (p := ⟨w10.heap.size + 1, 0, none⟩) TUR.out.lt).trans (TUR.out.cell 0), (hb.cell (p := ⟨w10.heap.size + 1, 1, none⟩) TUR.out.lt).trans (TUR.out.cell 1), (hb.cell (p := ⟨w10.heap.size + 1, 2, none⟩) TUR.out.lt).trans (TUR.out.cell 2), (hb.cell (p := ⟨w10.heap.size + 1, 3, none⟩) TUR.out.lt).trans (TUR.out.cell 3), (hb.cell (p := ⟨w10.heap.size + 1, 4, none⟩) TUR.out.lt).trans (TUR.out.cell 4), hb⟩))
  have hrt2 := fun W (hb : Below w11.heap.size w11 W) => (refright_any W ⟨kd, keyB seed 0, e.parents, body, S⟩ a' c' (R11.out W hb) HE.out.len HE.out.each (by have := HBD.out; unfold maxLen; show body.size ≤ _; omega)).mono (fun r w' (q : r = .returned (.bool (evOk ⟨kd, keyB seed 0, e.parents, body, S⟩)) ∧ Below W.heap.size W w') => (show r = .returned (.bool (evOk ⟨kd, keyB seed 0, e.parents, body, S⟩)) ∧ Below w11.heap.size w11 w' from ⟨q.1, hb.trans (q.2.mono hb.size)⟩))
  unfold evV at hrt2
  simp only [] at hrt2
  have B0 := Lib.hid (Below.refl w11.heap.size w11)
  have B0d := Lib.hid (show Below w11.heap.size w11 w11.drew from (Below.refl _ _).drew)
  cases hT : evOk ⟨kd, keyB seed 0, e.parents, body, S⟩ with
  | false =>
    rw [hT] at hrt2
    have HRT := Lib.hid hrt2
    obtain ⟨k0, k1, k2, k3, k4, k5, k6, k7, k8, k9, _⟩ := SALL.out w11.drew B0d.out
    clear hrt2 hT hok1 hrt hCz hok
    go_region_law (first | (go_simp; go_at_call 10; refine (HRT.out _ (by first | exact B0d.out)).mono ?_; rintro r w12 ⟨rfl, b12⟩; simp only []))
    all_goals
      go_wp2
      go_ret
      exact ⟨rfl, B11.out.trans (b12.mono B11.out.size)⟩
  | true =>
    rw [hT] at hrt2
    have HRT := Lib.hid hrt2
    have hct := fun W (hb : Below w11.heap.size w11 W) => (refcontent_any W ⟨kd, keyB seed 0, e.parents, body, S⟩ a' c' (R11.out W hb) (noSig_ok hT)).mono (fun r w' (q : r = .returned (.string (evC ⟨kd, keyB seed 0, e.parents, body, S⟩)) ∧ Below W.heap.size W w') => (show r = .returned (.string (evC ⟨kd, keyB seed 0, e.parents, body, S⟩)) ∧ Below w11.heap.size w11 w' from ⟨q.1, hb.trans (q.2.mono hb.size)⟩))
    have hcs := fun W (hb : Below w11.heap.size w11 W) => (refcontent_any W { authE e (keyB seed 0) with sig := S } a' c' (R11.out W hb) hok).mono (fun r w' (q : r = .returned (.string (evC { authE e (keyB seed 0) with sig := S })) ∧ Below W.heap.size W w') => (show r = .returned (.string C) ∧ Below w11.heap.size w11 w' from ⟨by rw [q.1, HC2.out]; rfl, hb.trans (q.2.mono hb.size)⟩))
    have hTz := evC_size (noSig_ok hT)
    rw [show evC ⟨kd, keyB seed 0, e.parents, body, S⟩ = evC ⟨kd, keyB seed 0, e.parents, body, S⟩ from rfl] at hTz
    have hSz : S.size = 2 + 32 * (67 + 0) := hok1.hz
    have hAZ : (keyB seed 0).size ≤ maxLen := by have := (evOk_all hok).2.2.2.1; simp only [noSig, authE] at this; unfold maxLen; omega
    obtain ⟨D, hD⟩ : ∃ D, D = evC ⟨kd, keyB seed 0, e.parents, body, S⟩ := ⟨_, rfl⟩
    have hvy := fun W hT => verify_yes W (keyB seed 0) D S 0 0 hok1 (by rw [hD]; omega) hT
    have hck := fun W (hb : Below w11.heap.size w11 W) => (check_yes W ⟨kd, keyB seed 0, e.parents, body, S⟩ a' c' ⟨R11.out W hb, HE.out.len, HC10.out, HE.out.each, by have := HBD.out; unfold maxLen; show body.size ≤ _; omega, hAZ, by unfold maxLen; show S.size ≤ _; omega⟩ hT (HT.out.below (B11.out.trans (hb.mono B11.out.size))) ((sigTop D S 0 0).toList == (keyB seed 0).toList) (fun W2 hT2 => by rw [← hD]; exact hvy W2 hT2)).mono (fun r w' (q : r = .returned (.int .i64 (if ((sigTop D S 0 0).toList == (keyB seed 0).toList) = true then 0 else 4)) ∧ Below W.heap.size W w') => (show r = .returned (.int .i64 (if ((sigTop D S 0 0).toList == (keyB seed 0).toList) = true then 0 else 4)) ∧ Below w11.heap.size w11 w' from ⟨q.1, hb.trans (q.2.mono hb.size)⟩))
    have hctr := fun W (hb : Below w11.heap.size w11 W) => refcontent_any W ⟨kd, keyB seed 0, e.parents, body, S⟩ a' c' (R11.out W hb) (noSig_ok hT)
    have hckr := fun W (hb : Below w11.heap.size w11 W) => check_yes W ⟨kd, keyB seed 0, e.parents, body, S⟩ a' c' ⟨R11.out W hb, HE.out.len, HC10.out, HE.out.each, by have := HBD.out; unfold maxLen; show body.size ≤ _; omega, hAZ, by unfold maxLen; show S.size ≤ _; omega⟩ hT (HT.out.below (B11.out.trans (hb.mono B11.out.size))) ((sigTop D S 0 0).toList == (keyB seed 0).toList) (fun W2 hT2 => by rw [← hD]; exact hvy W2 hT2)
    unfold evV at hctr hckr
    rw [← hD] at hctr
    simp only [] at hctr hckr
    unfold evV at hct hcs hck
    unfold authE at hcs
    rw [← hD] at hct hTz
    simp only [] at hct hcs hck
    have HCT := Lib.hid hct
    have HCS := Lib.hid hcs
    have SB := Lib.hid (fun Wb (hW : Below w11.heap.size w11 Wb) w' (hb : Below Wb.heap.size Wb w') => (show w'.cell? ⟨w10.heap.size, 0, none⟩ = some (.int .i64 e.kind) ∧ w'.cell? ⟨w10.heap.size, 1, none⟩ = some (.string (keyB seed 0)) ∧ w'.cell? ⟨w10.heap.size, 2, none⟩ = some (.slice a' e.parents.length c') ∧ w'.cell? ⟨w10.heap.size, 3, none⟩ = some (.string e.body) ∧ w'.cell? ⟨w10.heap.size, 4, none⟩ = some (.string S) ∧ w'.cell? ⟨w10.heap.size + 1, 0, none⟩ = some (.int .i64 kd) ∧ w'.cell? ⟨w10.heap.size + 1, 1, none⟩ = some (.string (keyB seed 0)) ∧ w'.cell? ⟨w10.heap.size + 1, 2, none⟩ = some (.slice a' e.parents.length c') ∧ w'.cell? ⟨w10.heap.size + 1, 3, none⟩ = some (.string body) ∧ w'.cell? ⟨w10.heap.size + 1, 4, none⟩ = some (.string S) ∧ Below Wb.heap.size Wb w' from by
      obtain ⟨k0, k1, k2, k3, k4, k5, k6, k7, k8, k9, _⟩ := SALL.out w' (hW.trans (hb.mono hW.size))
      exact ⟨k0, k1, k2, k3, k4, k5, k6, k7, k8, k9, hb⟩))
    obtain ⟨k0, k1, k2, k3, k4, k5, k6, k7, k8, k9, _⟩ := SALL.out w11.drew B0d.out
    by_cases hDC : D = C
    · have heq : (D.toList == C.toList) = true := (beqT _ _).2 hDC
      clear hrt2 hT hct hcs hck hctr hckr hvy hok1 hrt hCz hok hTz hD hDC hSz hAZ
      go_region_law (first
        | (go_simp; go_at_call 14; refine (HCS.out _ b13).mono ?_; rintro r w14 ⟨rfl, b14⟩; simp only [])
        | (go_simp; go_at_call 14; refine (HCT.out _ b12).mono ?_; rintro r w13 ⟨rfl, b13⟩; obtain ⟨p0, p1, p2, p3, p4, p5, p6, p7, p8, p9, _⟩ := SALL.out w13 b13; simp only [])
        | (go_simp; go_at_call 10; refine (HRT.out _ B0d.out).mono ?_; rintro r w12 ⟨rfl, b12⟩; obtain ⟨j0, j1, j2, j3, j4, j5, j6, j7, j8, j9, _⟩ := SALL.out w12 b12; simp only []))
      all_goals
        go_wp2
        go_ret
        exact ⟨rfl, B11.out.trans (b14.mono B11.out.size)⟩
    · have heq : (D.toList == C.toList) = false := beqF hDC
      by_cases hX : sigTop D S 0 0 = keyB seed 0
      · rw [hX, (beqT _ _).2 rfl] at hck hckr
        have HCKR := Lib.hid (show ∀ W, Below w11.heap.size w11 W → Calls Tryz.prog 15 #[.agg #[.int .i64 kd, .string (keyB seed 0), .slice a' e.parents.length c', .string body, .string S]] W fun r w' => r = .returned (.int .i64 0) ∧ Below W.heap.size W w' from hckr)
        have HCTR := Lib.hid hctr
        have HCK := Lib.hid (show ∀ W, Below w11.heap.size w11 W → Calls Tryz.prog 15 #[.agg #[.int .i64 kd, .string (keyB seed 0), .slice a' e.parents.length c', .string body, .string S]] W fun r w' => r = .returned (.int .i64 0) ∧ Below w11.heap.size w11 w' from hck)
        have hr1 := fun W => refverify_yes W (keyB seed 0) C S 0 0 hok1 (by omega)
        have hr2 := fun W => refverify_yes W (keyB seed 0) D S 0 0 hok1 (by omega)
        have hzS : S.size = 2 + 32 * (67 + 0) := hok1.hz
        have l1 := roadV_length C (cutL S 2 67) 0 (cutL S 2146 0) (by rw [cutL_length]; omega)
        have l2 := roadV_length D (cutL S 2 67) 0 (cutL S 2146 0) (by rw [cutL_length]; omega)
        have v32 := cutL_32 S 2 67 (by omega)
        have p32 := cutL_32 S 2146 0 (by omega)
        have r1 := roadV_le C (cutL S 2 67) 0 (cutL S 2146 0) (by omega) (cutL_length _ _ _) v32 p32
        have r2 := roadV_le D (cutL S 2 67) 0 (cutL S 2146 0) (by omega) (cutL_length _ _ _) v32 p32
        have hxc := other_round C D (cutL S 2 67) (cutL S 2146 0) 0 0 (cutL_length _ _ _) (cutL_length _ _ _) v32.small p32.small (by omega) (by omega) (fun e => hDC e.symm) (show sigTop C S 0 0 = sigTop D S 0 0 from hrt.trans hX.symm)
        have HX := Lib.hid (hxc.imp (clash_ex _ _) id)
        have hexc := fun W g c (hr : StrRow W (some ⟨g, 0, none⟩) (roadV C (cutL S 2 67) 0 (cutL S 2146 0) ++ roadV D (cutL S 2 67) 0 (cutL S 2146 0))) hx => excused_true W g c _ S 0 0 hok1 (by rw [List.length_append]; omega) hr (getD_all _ _ (fun p hp => by
          rcases List.mem_append.1 hp with h | h
          · exact r1 p h
          · exact r2 p h)) hx
        rw [List.length_append] at hexc
        rw [hrt, (beqT _ _).2 rfl] at hr1
        rw [hX, (beqT _ _).2 rfl] at hr2
        generalize roadV C (cutL S 2 67) 0 (cutL S 2146 0) = R1 at *
        generalize roadV D (cutL S 2 67) 0 (cutL S 2146 0) = R2 at *
        have HBO := Lib.hid (fun W g1 c1 g2 c2 q1 q2 => both_any W g1 0 c1 g2 0 c2 R1 R2 l1.2 l2.2 l1.1 l2.1 q1 q2)
        have HEC := Lib.hid hexc
        have HR1 := Lib.hid hr1
        have HR2 := Lib.hid hr2
        clear hrt2 hT hct hcs hck hctr hckr hvy hok1 hrt hCz hok hTz hD hDC hSz hAZ hX hr1 hr2 hzS l1 l2 v32 p32 r1 r2 hxc hexc
        go_region_held3 (fun w' => w'.cell? ⟨w10.heap.size, 0, none⟩ = some (.int .i64 e.kind) ∧ w'.cell? ⟨w10.heap.size, 1, none⟩ = some (.string (keyB seed 0)) ∧ w'.cell? ⟨w10.heap.size, 2, none⟩ = some (.slice a' e.parents.length c') ∧ w'.cell? ⟨w10.heap.size, 3, none⟩ = some (.string e.body) ∧ w'.cell? ⟨w10.heap.size, 4, none⟩ = some (.string S) ∧ w'.cell? ⟨w10.heap.size + 1, 0, none⟩ = some (.int .i64 kd) ∧ w'.cell? ⟨w10.heap.size + 1, 1, none⟩ = some (.string (keyB seed 0)) ∧ w'.cell? ⟨w10.heap.size + 1, 2, none⟩ = some (.slice a' e.parents.length c') ∧ w'.cell? ⟨w10.heap.size + 1, 3, none⟩ = some (.string body) ∧ w'.cell? ⟨w10.heap.size + 1, 4, none⟩ = some (.string S) ∧ Below w11.heap.size w11 w')
          (first | exact SALL.out _ B0d.out | exact SALL.out _ b15 | exact SALL.out _ b14 | exact SALL.out _ b13 | exact SALL.out _ b12 | go_keep)
          (first
        | (go_at_call 15; refine (HCK.out _ b14).mono ?_; rintro r w15 ⟨rfl, b15⟩)
        | (go_at_call 14; refine (HCS.out _ b13).mono ?_; rintro r w14 ⟨rfl, b14⟩)
        | (go_at_call 14; refine (HCT.out _ b12).mono ?_; rintro r w13 ⟨rfl, b13⟩)
        | (go_at_call 10; refine (HRT.out _ B0d.out).mono ?_; rintro r w12 ⟨rfl, b12⟩))
        have B15 := Lib.hid b15
        have B15d := Lib.hid (show Below w11.heap.size w11 w15.drew from b15.drew)
        clear b12 b13 b14 b15 k0 k1 k2 k3 k4 k5 k6 k7 k8 k9
        obtain ⟨k0, k1, k2, k3, k4, k5, k6, k7, k8, k9, _⟩ := SALL.out w15.drew B15d.out
        go_wp2
        go_region_held3 (fun w' => w'.cell? ⟨w10.heap.size, 0, none⟩ = some (.int .i64 e.kind) ∧ w'.cell? ⟨w10.heap.size, 1, none⟩ = some (.string (keyB seed 0)) ∧ w'.cell? ⟨w10.heap.size, 2, none⟩ = some (.slice a' e.parents.length c') ∧ w'.cell? ⟨w10.heap.size, 3, none⟩ = some (.string e.body) ∧ w'.cell? ⟨w10.heap.size, 4, none⟩ = some (.string S) ∧ w'.cell? ⟨w10.heap.size + 1, 0, none⟩ = some (.int .i64 kd) ∧ w'.cell? ⟨w10.heap.size + 1, 1, none⟩ = some (.string (keyB seed 0)) ∧ w'.cell? ⟨w10.heap.size + 1, 2, none⟩ = some (.slice a' e.parents.length c') ∧ w'.cell? ⟨w10.heap.size + 1, 3, none⟩ = some (.string body) ∧ w'.cell? ⟨w10.heap.size + 1, 4, none⟩ = some (.string S) ∧ Below w11.heap.size w11 w')
          (first | exact SALL.out _ B15d.out | exact SALL.out _ b17 | exact SALL.out _ b16 | go_keep)
          (first
            | (go_at_call 16; refine (HR1.out _).mono ?_; rintro r w17 ⟨⟨g1, n1, c1, rfl, rfl, q17⟩, b17r⟩; have b17 := b16.trans (b17r.mono b16.size))
            | (go_at_call 14; refine (HCS.out _ B15d.out).mono ?_; rintro r w16 ⟨rfl, b16⟩))
        have B17 := Lib.hid b17
        have B17d := Lib.hid (show Below w11.heap.size w11 w17.drew from b17.drew)
        have B17e := Lib.hid (show Below w17.heap.size w17 w17.drew from (Below.refl _ _).drew)
        have Q17 := Lib.hid q17
        clear b16 b17 b17r q17 k0 k1 k2 k3 k4 k5 k6 k7 k8 k9 B15 B15d
        obtain ⟨k0, k1, k2, k3, k4, k5, k6, k7, k8, k9, _⟩ := SALL.out w17.drew B17d.out
        go_wp2
        go_region_held3 (fun w' => w'.cell? ⟨w10.heap.size, 0, none⟩ = some (.int .i64 e.kind) ∧ w'.cell? ⟨w10.heap.size, 1, none⟩ = some (.string (keyB seed 0)) ∧ w'.cell? ⟨w10.heap.size, 2, none⟩ = some (.slice a' e.parents.length c') ∧ w'.cell? ⟨w10.heap.size, 3, none⟩ = some (.string e.body) ∧ w'.cell? ⟨w10.heap.size, 4, none⟩ = some (.string S) ∧ w'.cell? ⟨w10.heap.size + 1, 0, none⟩ = some (.int .i64 kd) ∧ w'.cell? ⟨w10.heap.size + 1, 1, none⟩ = some (.string (keyB seed 0)) ∧ w'.cell? ⟨w10.heap.size + 1, 2, none⟩ = some (.slice a' e.parents.length c') ∧ w'.cell? ⟨w10.heap.size + 1, 3, none⟩ = some (.string body) ∧ w'.cell? ⟨w10.heap.size + 1, 4, none⟩ = some (.string S) ∧ Below w17.heap.size w17 w')
          (first | exact SB.out w17 B17.out _ B17e.out | exact SB.out w17 B17.out _ b19 | exact SB.out w17 B17.out _ b18 | go_keep)
          (first
            | (go_at_call 16; refine (HR2.out _).mono ?_; rintro r w19 ⟨⟨g2, n2, c2, rfl, rfl, q19⟩, b19r⟩; have b19 := b18.trans (b19r.mono b18.size))
            | (go_at_call 14; refine (HCTR.out _ B17d.out).mono ?_; rintro r w18 ⟨rfl, b18r⟩; have b18 := B17e.out.trans (b18r.mono B17e.out.size)))
        have B19 := Lib.hid (B17.out.trans (b19.mono B17.out.size))
        have B19d := Lib.hid (show Below w11.heap.size w11 w19.drew from B19.out.drew)
        have B19e := Lib.hid (show Below w19.heap.size w19 w19.drew from (Below.refl _ _).drew)
        have Q19a := Lib.hid (Q17.out.below b19)
        have Q19 := Lib.hid q19
        clear b18 b18r b19 b19r q19 k0 k1 k2 k3 k4 k5 k6 k7 k8 k9 B17d B17e Q17
        obtain ⟨k0, k1, k2, k3, k4, k5, k6, k7, k8, k9, _⟩ := SALL.out w19.drew B19d.out
        go_wp2
        go_region_held3 (fun w' => w'.cell? ⟨w10.heap.size, 0, none⟩ = some (.int .i64 e.kind) ∧ w'.cell? ⟨w10.heap.size, 1, none⟩ = some (.string (keyB seed 0)) ∧ w'.cell? ⟨w10.heap.size, 2, none⟩ = some (.slice a' e.parents.length c') ∧ w'.cell? ⟨w10.heap.size, 3, none⟩ = some (.string e.body) ∧ w'.cell? ⟨w10.heap.size, 4, none⟩ = some (.string S) ∧ w'.cell? ⟨w10.heap.size + 1, 0, none⟩ = some (.int .i64 kd) ∧ w'.cell? ⟨w10.heap.size + 1, 1, none⟩ = some (.string (keyB seed 0)) ∧ w'.cell? ⟨w10.heap.size + 1, 2, none⟩ = some (.slice a' e.parents.length c') ∧ w'.cell? ⟨w10.heap.size + 1, 3, none⟩ = some (.string body) ∧ w'.cell? ⟨w10.heap.size + 1, 4, none⟩ = some (.string S) ∧ Below w19.heap.size w19 w')
          (first | exact SB.out w19 B19.out _ B19e.out | exact SB.out w19 B19.out _ b22 | exact SB.out w19 B19.out _ b21 | exact SB.out w19 B19.out _ b20 | go_keep)
          (first
            | (go_at_call 17; refine (HEC.out _ g3 c3 q3 (by have hx := HX.out; rw [List.length_append] at hx; exact hx)).mono ?_; rintro r w22 ⟨rfl, b22r⟩; have b22 := b21.trans (b22r.mono b21.size))
            | (go_at_call 18; refine (HBO.out _ g1 c1 g2 c2 (Q19a.out.below b20) (Q19.out.below b20)).mono ?_; rintro r w21 ⟨⟨g3, c3, rfl, q3⟩, b21r⟩; have b21 := b20.trans (b21r.mono b20.size))
            | (go_at_call 15; refine (HCKR.out _ B19d.out).mono ?_; rintro r w20 ⟨rfl, b20r⟩; have b20 := B19e.out.trans (b20r.mono B19e.out.size)))
        go_wp2
        go_ret
        exact ⟨rfl, B11.out.trans ((B19.out.trans (b22.mono B19.out.size)).mono B11.out.size)⟩
      · have hXF : ((sigTop D S 0 0).toList == (keyB seed 0).toList) = false := beqF hX
        rw [hXF] at hck
        have HCK := Lib.hid (show ∀ W, Below w11.heap.size w11 W → Calls Tryz.prog 15 #[.agg #[.int .i64 kd, .string (keyB seed 0), .slice a' e.parents.length c', .string body, .string S]] W fun r w' => r = .returned (.int .i64 4) ∧ Below w11.heap.size w11 w' from hck)
        clear hrt2 hT hct hcs hck hctr hckr hvy hok1 hrt hCz hok hTz hD hDC hSz hAZ hX hXF
        go_region_held3 (fun w' => w'.cell? ⟨w10.heap.size, 0, none⟩ = some (.int .i64 e.kind) ∧ w'.cell? ⟨w10.heap.size, 1, none⟩ = some (.string (keyB seed 0)) ∧ w'.cell? ⟨w10.heap.size, 2, none⟩ = some (.slice a' e.parents.length c') ∧ w'.cell? ⟨w10.heap.size, 3, none⟩ = some (.string e.body) ∧ w'.cell? ⟨w10.heap.size, 4, none⟩ = some (.string S) ∧ w'.cell? ⟨w10.heap.size + 1, 0, none⟩ = some (.int .i64 kd) ∧ w'.cell? ⟨w10.heap.size + 1, 1, none⟩ = some (.string (keyB seed 0)) ∧ w'.cell? ⟨w10.heap.size + 1, 2, none⟩ = some (.slice a' e.parents.length c') ∧ w'.cell? ⟨w10.heap.size + 1, 3, none⟩ = some (.string body) ∧ w'.cell? ⟨w10.heap.size + 1, 4, none⟩ = some (.string S) ∧ Below w11.heap.size w11 w')
          (first | exact SALL.out _ B0d.out | exact SALL.out _ b15 | exact SALL.out _ b14 | exact SALL.out _ b13 | exact SALL.out _ b12 | go_keep)
          (first
        | (go_at_call 15; refine (HCK.out _ b14).mono ?_; rintro r w15 ⟨rfl, b15⟩)
        | (go_at_call 14; refine (HCS.out _ b13).mono ?_; rintro r w14 ⟨rfl, b14⟩)
        | (go_at_call 14; refine (HCT.out _ b12).mono ?_; rintro r w13 ⟨rfl, b13⟩)
        | (go_at_call 10; refine (HRT.out _ B0d.out).mono ?_; rintro r w12 ⟨rfl, b12⟩))
        go_wp2
        go_ret
        exact ⟨rfl, B11.out.trans (b15.mono B11.out.size)⟩


theorem walk (e : E) (a : Option Addr) (c : Nat) (seed body : ByteArray) (kd : Int) (w : World) (he : Came w e a c) (hz : seed.size ≤ maxLen) (hz2 : body.size ≤ maxLen) (wk : (Lit.int .i64 kd).wf = true) (ht : Tabs w) :
    Calls Tryz.prog 4 #[evV e a c, .string seed, .string body, .int .i64 kd] w fun r w' => r = .returned (.bool true) ∧ Below w.heap.size w w' := by
  cases hok : evOk (noSig (authE e (keyB seed 0))) with
  | false => exact walk_form e a c seed body kd w he hz hz2 wk ht hok
  | true => exact walk_ok e a c seed body kd w he hz hz2 wk ht hok

theorem own : ownKnob Tryz.prog.godebug = none := by kernel_rfl
theorem laidOut : laidOutB Tryz.prog = true := by kernel_rfl

set_option maxRecDepth 100000 in
theorem contract (H : Type) (enc : TypeId × Value → H) (W : World) (base : Nat) (args : Array Value) (ds gs : List (DataW H)) (before : List MemPlace)
    (hval : ∀ (j : Nat) t v, Tryz.f4.params[j]? = some t → args[j]? = some v → Value.okWide Tryz.prog W .any base t v)
    (hW : DataW.Whole enc Tryz.prog Tryz.f4.params.toList Rows.eventTurnedSpec.vars false W args.toList ds gs before) (hL : laidMetH Tryz.prog Rows.eventTurnedRow.laid W) :
    Calls Tryz.prog 4 args W fun e W' => ∃ v, e = .returned v ∧ Rows.eventTurnedSpec.post enc Tryz.prog Tryz.f4 false true false false W args v W' := by
  have hW' := hW
  obtain ⟨p, q, hA0, hV, rfl, hfz, hnd⟩ := hW
  have hA : DataW.TrodAll enc Tryz.prog W 0 (fun _ => true) true Tryz.f4.params.toList args.toList ds p := hA0
  rw [Tryz.params4] at hA hval
  obtain ⟨v0, vs0, d0, ds0, p0, q0, hargs, rfl, rfl, h0, r0⟩ := trodAll_cons hA
  obtain ⟨v1, vs1, d1, ds1, p1, q1, rfl, rfl, rfl, h1, r1⟩ := trodAll_cons r0
  obtain ⟨v2, vs2, d2, ds2, p2, q2, rfl, rfl, rfl, h2, r2⟩ := trodAll_cons r1
  obtain ⟨v3, vs3, d3, ds3, p3, q3, rfl, rfl, rfl, h3, r3⟩ := trodAll_cons r2
  obtain ⟨rfl, rfl, rfl⟩ := trodAll_nil r3
  obtain rfl : args = #[v0, v1, v2, v3] := by cases args; simp_all
  obtain ⟨rfl, rfl⟩ := trodVars_none hV
  have k0 := h0
  have lt0 : ∀ x ∈ p0, x.block < W.heap.size := by obtain ⟨m, hm⟩ := k0; exact DataW.trod_lt m _ _ _ hm
  obtain ⟨e0, a0, c0, rfl, i0, _⟩ := open_event (hval 0 24 v0 rfl rfl) h0
  obtain ⟨a1, rfl, rfl, rfl, w1⟩ := open_string Tryz.underlying9 (hval 1 9 v1 rfl rfl) h1
  obtain ⟨a2, rfl, rfl, rfl, w2⟩ := open_string Tryz.underlying9 (hval 2 9 v2 rfl rfl) h2
  obtain ⟨a3, rfl, rfl, rfl, w3⟩ := open_int Tryz.underlying3 (hval 3 3 v3 rfl rfl) h3
  clear hA0
  refine (walk e0 a0 c0 a1 a2 a3 W i0 w1 w2 w3 (tabs_of_laid hL)).mono fun e W' ⟨he, bel⟩ => ?_
  subst he
  exact ⟨_, rfl, _, _, _, [], _, [], hW', trodAll_mk1 (shut_bool Tryz.underlying4 _), (trodAll_cons_mk (Below.trod laidOut (by kernel_rfl) (of_decide_eq_true (by kernel_rfl)) k0 bel lt0) (trodAll_cons_mk (shut_string Tryz.underlying9 w1) (trodAll_cons_mk (shut_string Tryz.underlying9 w2) (trodAll_cons_mk (shut_int Tryz.underlying3 w3) trodAll_mk0)))), rfl, bel.frame _, fun h => by cases h⟩

theorem laid_met (os : Os) : laidMet Tryz.prog Rows.eventTurnedRow.laid (({ World.holding Tryz.prog os ⟨#[], #[], []⟩ with heap := ((World.holding Tryz.prog os ⟨#[], #[], []⟩).heap.modify 0 fun | .cells _ t frozen => .cells #[.int .u32 1779033703, .int .u32 3144134277, .int .u32 1013904242, .int .u32 2773480762, .int .u32 1359893119, .int .u32 2600822924, .int .u32 528734635, .int .u32 1541459225] t frozen | o => o).modify 1 fun | .cells _ t frozen => .cells #[.int .u32 1116352408, .int .u32 1899447441, .int .u32 3049323471, .int .u32 3921009573, .int .u32 961987163, .int .u32 1508970993, .int .u32 2453635748, .int .u32 2870763221, .int .u32 3624381080, .int .u32 310598401, .int .u32 607225278, .int .u32 1426881987, .int .u32 1925078388, .int .u32 2162078206, .int .u32 2614888103, .int .u32 3248222580, .int .u32 3835390401, .int .u32 4022224774, .int .u32 264347078, .int .u32 604807628, .int .u32 770255983, .int .u32 1249150122, .int .u32 1555081692, .int .u32 1996064986, .int .u32 2554220882, .int .u32 2821834349, .int .u32 2952996808, .int .u32 3210313671, .int .u32 3336571891, .int .u32 3584528711, .int .u32 113926993, .int .u32 338241895, .int .u32 666307205, .int .u32 773529912, .int .u32 1294757372, .int .u32 1396182291, .int .u32 1695183700, .int .u32 1986661051, .int .u32 2177026350, .int .u32 2456956037, .int .u32 2730485921, .int .u32 2820302411, .int .u32 3259730800, .int .u32 3345764771, .int .u32 3516065817, .int .u32 3600352804, .int .u32 4094571909, .int .u32 275423344, .int .u32 430227734, .int .u32 506948616, .int .u32 659060556, .int .u32 883997877, .int .u32 958139571, .int .u32 1322822218, .int .u32 1537002063, .int .u32 1747873779, .int .u32 1955562222, .int .u32 2024104815, .int .u32 2227730452, .int .u32 2361852424, .int .u32 2428436474, .int .u32 2756734187, .int .u32 3204031479, .int .u32 3329325298] t frozen | o => o } : World).forCall (fun _ _ => 0) ⟨#[], #[.agg #[.int .i64 0, .string ByteArray.empty, .slice none 0 0, .string ByteArray.empty, .string ByteArray.empty], .string ByteArray.empty, .string ByteArray.empty, .int .i64 0], []⟩).memory :=
  laidMet_of_run' 8 (by kernel_rfl) (by kernel_rfl)
theorem reads (os : Os) {H : Type} (enc : TypeId × Value → H) : ∃ places, DataW.whole enc Tryz.prog (({ World.holding Tryz.prog os ⟨#[], #[], []⟩ with heap := ((World.holding Tryz.prog os ⟨#[], #[], []⟩).heap.modify 0 fun | .cells _ t frozen => .cells #[.int .u32 1779033703, .int .u32 3144134277, .int .u32 1013904242, .int .u32 2773480762, .int .u32 1359893119, .int .u32 2600822924, .int .u32 528734635, .int .u32 1541459225] t frozen | o => o).modify 1 fun | .cells _ t frozen => .cells #[.int .u32 1116352408, .int .u32 1899447441, .int .u32 3049323471, .int .u32 3921009573, .int .u32 961987163, .int .u32 1508970993, .int .u32 2453635748, .int .u32 2870763221, .int .u32 3624381080, .int .u32 310598401, .int .u32 607225278, .int .u32 1426881987, .int .u32 1925078388, .int .u32 2162078206, .int .u32 2614888103, .int .u32 3248222580, .int .u32 3835390401, .int .u32 4022224774, .int .u32 264347078, .int .u32 604807628, .int .u32 770255983, .int .u32 1249150122, .int .u32 1555081692, .int .u32 1996064986, .int .u32 2554220882, .int .u32 2821834349, .int .u32 2952996808, .int .u32 3210313671, .int .u32 3336571891, .int .u32 3584528711, .int .u32 113926993, .int .u32 338241895, .int .u32 666307205, .int .u32 773529912, .int .u32 1294757372, .int .u32 1396182291, .int .u32 1695183700, .int .u32 1986661051, .int .u32 2177026350, .int .u32 2456956037, .int .u32 2730485921, .int .u32 2820302411, .int .u32 3259730800, .int .u32 3345764771, .int .u32 3516065817, .int .u32 3600352804, .int .u32 4094571909, .int .u32 275423344, .int .u32 430227734, .int .u32 506948616, .int .u32 659060556, .int .u32 883997877, .int .u32 958139571, .int .u32 1322822218, .int .u32 1537002063, .int .u32 1747873779, .int .u32 1955562222, .int .u32 2024104815, .int .u32 2227730452, .int .u32 2361852424, .int .u32 2428436474, .int .u32 2756734187, .int .u32 3204031479, .int .u32 3329325298] t frozen | o => o } : World).forCall (fun _ _ => 0) ⟨#[], #[.agg #[.int .i64 0, .string ByteArray.empty, .slice none 0 0, .string ByteArray.empty, .string ByteArray.empty], .string ByteArray.empty, .string ByteArray.empty, .int .i64 0], []⟩).memory Tryz.f4.params.toList Rows.eventTurnedSpec.vars false (#[.agg #[.int .i64 0, .string ByteArray.empty, .slice none 0 0, .string ByteArray.empty, .string ByteArray.empty], .string ByteArray.empty, .string ByteArray.empty, .int .i64 0] : Array Value).toList 8 = some ([.agg [.lit (.int .i64 0), .lit (.string []), .nil, .lit (.string []), .lit (.string [])], .lit (.string []), .lit (.string []), .lit (.int .i64 0)], [], places) :=
  ⟨[], by kernel_rfl⟩

set_option maxRecDepth 100000 in
theorem lifted (os : Os) (started : os.Started) (H : Type) (enc : TypeId × Value → H) (F : Stop.Interp) :
    ReturnsInHanded {} Tryz.checked os 4 .any ((OpenSpec.ofChange Rows.eventTurnedSpec).preRow enc Tryz.prog Tryz.f4 Rows.eventTurnedRow.domain false Rows.eventTurnedRow.laid) (((OpenSpec.ofChange Rows.eventTurnedSpec).at F).post enc Tryz.prog Tryz.f4 false true false false) := by
  obtain ⟨places, hx⟩ := reads os enc
  refine returnsInHanded_of_row (C := Tryz.checked) (s := OpenSpec.ofChange Rows.eventTurnedSpec) own started (by kernel_rfl) Tryz.func4
    (witness_row_at (enc := enc) (C := Tryz.checked) false ({ World.holding Tryz.prog os ⟨#[], #[], []⟩ with heap := ((World.holding Tryz.prog os ⟨#[], #[], []⟩).heap.modify 0 fun | .cells _ t frozen => .cells #[.int .u32 1779033703, .int .u32 3144134277, .int .u32 1013904242, .int .u32 2773480762, .int .u32 1359893119, .int .u32 2600822924, .int .u32 528734635, .int .u32 1541459225] t frozen | o => o).modify 1 fun | .cells _ t frozen => .cells #[.int .u32 1116352408, .int .u32 1899447441, .int .u32 3049323471, .int .u32 3921009573, .int .u32 961987163, .int .u32 1508970993, .int .u32 2453635748, .int .u32 2870763221, .int .u32 3624381080, .int .u32 310598401, .int .u32 607225278, .int .u32 1426881987, .int .u32 1925078388, .int .u32 2162078206, .int .u32 2614888103, .int .u32 3248222580, .int .u32 3835390401, .int .u32 4022224774, .int .u32 264347078, .int .u32 604807628, .int .u32 770255983, .int .u32 1249150122, .int .u32 1555081692, .int .u32 1996064986, .int .u32 2554220882, .int .u32 2821834349, .int .u32 2952996808, .int .u32 3210313671, .int .u32 3336571891, .int .u32 3584528711, .int .u32 113926993, .int .u32 338241895, .int .u32 666307205, .int .u32 773529912, .int .u32 1294757372, .int .u32 1396182291, .int .u32 1695183700, .int .u32 1986661051, .int .u32 2177026350, .int .u32 2456956037, .int .u32 2730485921, .int .u32 2820302411, .int .u32 3259730800, .int .u32 3345764771, .int .u32 3516065817, .int .u32 3600352804, .int .u32 4094571909, .int .u32 275423344, .int .u32 430227734, .int .u32 506948616, .int .u32 659060556, .int .u32 883997877, .int .u32 958139571, .int .u32 1322822218, .int .u32 1537002063, .int .u32 1747873779, .int .u32 1955562222, .int .u32 2024104815, .int .u32 2227730452, .int .u32 2361852424, .int .u32 2428436474, .int .u32 2756734187, .int .u32 3204031479, .int .u32 3329325298] t frozen | o => o } : World) #[.agg #[.int .i64 0, .string ByteArray.empty, .slice none 0 0, .string ByteArray.empty, .string ByteArray.empty], .string ByteArray.empty, .string ByteArray.empty, .int .i64 0] rfl (by kernel_rfl) (by kernel_rfl) (by kernel_rfl)
      (OpenSpec.preRow_of_cond 8 hx (by kernel_rfl) (fun k hk => by cases hk) (by kernel_rfl) (laid_met os))) ?_
  intro W base args ds gs before hval hW _ _ _ hL _ _
  exact contract H enc W base args ds gs before hval hW hL

theorem said : Rows.EventTurnedSaid :=
  OpenClaim.holds_of_cond 4 Tryz.f4 rfl rfl rfl rfl rfl rfl rfl ⟨rfl, rfl, rfl, rfl, rfl⟩ rfl rfl rfl rfl rfl (by kernel_rfl) Tryz.func4 (by kernel_rfl)
    (of_decide_eq_true (by kernel_rfl)) (by unfold Func.isWrapper; first | (rw [if_pos (by decide +kernel)]; kernel_rfl) | (rw [if_neg (by decide +kernel)]; exact ⟨rfl, rfl⟩))
    (fun os started H enc _ F => by rw [OpenClaim.pre_eq_preRow]; exact lifted os started H enc F)

theorem plain (f : FuncId) (fn : Func) (hf : Tryz.pinned.checked.prog.funcNamed Rows.eventTurnedRow.func = some f) (hfn : Tryz.pinned.checked.prog.funcs[f]? = some fn) :
    false = Tryz.pinned.checked.prog.looks [] ∧ ∀ (j : Nat) t, fn.params[j]? = some t → Tryz.pinned.checked.prog.wantsStandIn t = false := by
  obtain rfl : f = 4 := Option.some.inj ((show Tryz.prog.funcNamed Rows.eventTurnedRow.func = some 4 by kernel_rfl).symm.trans hf) |>.symm
  obtain rfl : fn = Tryz.f4 := (Option.some.inj (Tryz.func4.symm.trans hfn)).symm
  refine ⟨by kernel_rfl, fun j t ht => ?_⟩
  rw [Tryz.params4] at ht
  have hm : t = 24 ∨ t = 9 ∨ t = 3 := by first | simpa using Array.mem_of_getElem? ht | (have h := Array.mem_of_getElem? ht; simp only [List.mem_toArray, List.mem_cons, List.not_mem_nil, or_false] at h; rcases h with rfl | rfl | rfl | rfl <;> simp)
  rcases hm with rfl | rfl | rfl
  · exact (show Tryz.prog.wantsStandIn 24 = false by kernel_rfl)
  · exact (show Tryz.prog.wantsStandIn 9 = false by kernel_rfl)
  · exact (show Tryz.prog.wantsStandIn 3 = false by kernel_rfl)

theorem card : Rows.EventTurnedCardSaid :=
  Claim7.holds_tied_plain_at .later [] _ _ _ _ said (fun _ h => by cases h) (by kernel_rfl) (fun _ h => by cases h) eventTurned_row_tie rfl ⟨rfl, rfl⟩ (by kernel_rfl) rfl plain (by kernel_rfl)

end Go.Proofs.YtggfmnmopfdiaaaGreatDoor.EventTurned
namespace Go.Proofs.YtggfmnmopfdiaaaGreatDoor
theorem eventTurned_card : Rows.EventTurnedCardSaid := EventTurned.card
#print axioms eventTurned_card
end Go.Proofs.YtggfmnmopfdiaaaGreatDoor

