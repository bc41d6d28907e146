/-
  EventSigns: any event signed by any key: what comes is the document's, with its public and its signature; or why it isn't, and then no leaf is used.
  No condition but what the row itself says.
-/
import Derived.Test.YtggfmnmopfdiaaaGreatDoorSg3
import Derived.Test.YtggfmnmopfdiaaaGreatDoorE5b
import Derived.Test.YtggfmnmopfdiaaaGreatDoorE6
import Derived.Test.YtggfmnmopfdiaaaGreatDoorE4
import Derived.Test.YtggfmnmopfdiaaaGreatDoorE14
import Derived.Test.YtggfmnmopfdiaaaGreatDoorEOpen
import Derived.Test.YtggfmnmopfdiaaaGreatDoorB6
import Derived.Test.YtggfmnmopfdiaaaGreatDoorB8
import Derived.Test.YtggfmnmopfdiaaaGreatDoorApr
import Derived.Test.YtggfmnmopfdiaaaGreatDoorLaid
import Derived.BigQuiet
import Derived.Deep.QuietTactic
namespace Go.Proofs.YtggfmnmopfdiaaaGreatDoor.EventSigns
open Go.ChangeShapes Go.WideShapes Go.ChangeAt Go.RowKit Go.Pal Go.Pal.Fr Go.Pal.Ev
open Go.ChangeMaps (open_string shut_string)
set_option linter.unusedVariables false

theorem sig_ok (seed : ByteArray) (h leaf : Nat) (m : ByteArray) (hh : h ≤ 4) (hl : leaf < 2 ^ h) : SigOk (sigB seed h leaf m) h leaf :=
  ⟨hh, sigB_size _ _ _ _ hl, (sig_leaf _ _ _ _ (by have := pow_le16 h hh; omega)).symm, hl⟩
theorem sig_right (seed : ByteArray) (h leaf : Nat) (m : ByteArray) (hl : leaf < 2 ^ h) : sigTop m (sigB seed h leaf m) h leaf = keyB seed h := by
  rw [sigTop, sig_vals, sig_path _ _ _ _ hl, signed_top _ _ _ _ hl, keyB]
theorem own_empty6 {w : World} {base : Nat} (hb : base ≤ w.heap.size) : (w.alloc (.cells #[] 9)).ownsRow base 9 1 (.slice (some ⟨w.heap.size, 0, none⟩) 0 0) 0 [] :=
  ⟨rfl, .inr ⟨w.heap.size, 0, #[], rfl, hb, heap_alloc_new w _, Nat.le_refl _, Nat.zero_le _, rfl, rfl⟩⟩

theorem beqT6 (p : ByteArray) : (p.toList == p.toList) = true := (beqT _ _).2 rfl
theorem below_drewN6 {n : Nat} {w w' : World} (h : Below n w w') (k : Nat) : Below n w (w'.drewN k) := ⟨h.os, h.tape, h.output, h.size, h.block⟩
theorem okSig {e : E} {s : ByteArray} (h : evOk (noSig e) = true) (hs : s.size ≤ 65535) : evOk { e with sig := s } = true := by
  have h2 := evOk_all h
  simp only [noSig] at h2
  simp only [evOk, parOk, h2.1, h2.2.1, h2.2.2.1, h2.2.2.2.1, h2.2.2.2.2.1, hs, decide_true, Bool.and_self]


set_option maxHeartbeats 4000000 in
set_option maxRecDepth 100000 in
theorem walk_form0 (e : E) (a : Option Addr) (c : Nat) (seed : ByteArray) (w : World) (he : Came w e a c) (hz : seed.size ≤ maxLen) (ht : Tabs w) (hok : evOk (noSig (authE e (keyB seed 1))) = false) :
    Calls Tryz.prog 3 #[evV e a c, .string seed, .bool false] w fun r w' => r = .returned (.bool true) ∧ Below w.heap.size w w' := by
  have HG1 := Lib.hid (great_len (w.alloc (.cells #[.int .i64 e.kind, .string e.author, .slice a e.parents.length c, .string e.body, .string e.sig] 24)) e a c (he.row.below (alloc_below w _)) he.len he.each)
  have HAW := Lib.hid (fun (W : World) (hb : Below w.heap.size w W) => awake6 W (ht.below hb))
  have HROW := Lib.hid (fun W (hb : Below w.heap.size w W) => he.row.below hb)
  have HT := Lib.hid ht
  have HE := Lib.hid he
  obtain ⟨i0, hi0, hz0, hz1, hz2⟩ := info_parts (show (Tryz.prog.info? 9).map (fun i => (i.zero, i.size, i.bytes)) = some (some (.string ⟨#[]⟩), 1, 16) by kernel_rfl)
  have hnot : ∀ (x : Bool) (w : World), (Op.unary .not (.bool x)).run Tryz.prog w = .ok (.bool (!x)) w := fun _ _ => rfl
  clear he ht hz
  unfold evV at HG1 ⊢
  go_enter Tryz.func3, Tryz.ntmps3
  go_wp2_with fail
  refine HG1.out.mono ?_
  rintro r w1 ⟨⟨g, rfl, hlen⟩, q1⟩
  have B1 := Lib.hid ((alloc_below w _).trans (q1.mono (alloc_below w _).size))
  have SRC1 := Lib.hid (show Blk w1 w.heap.size 24 [.int .i64 e.kind, .string e.author, .slice a e.parents.length c, .string e.body, .string e.sig] from (Blk.new w _ [_, _, _, _, _]).below q1 (by simp))
  clear q1 HG1
  cases g
  case true =>
    have HA1 := Lib.hid (HAW.out w1 B1.out)
    go_wp2_with fail
    refine HA1.out.mono ?_
    rintro r w2 ⟨rfl, q2⟩
    go_wp2
    go_ret
    exact ⟨rfl, B1.out.trans (q2.mono B1.out.size)⟩
  have HLEN := Lib.hid (hlen rfl)
  clear hlen
  by_cases h300 : 300 < seed.size
  · have d1 : decide (300 < (seed.size : Int)) = true := decide_eq_true (by omega)
    have HA1 := Lib.hid (HAW.out w1 B1.out)
    clear h300
    go_wp2_with fail
    refine HA1.out.mono ?_
    rintro r w2 ⟨rfl, q2⟩
    go_wp2
    go_ret
    exact ⟨rfl, B1.out.trans (q2.mono B1.out.size)⟩
  have d1 : decide (300 < (seed.size : Int)) = false := decide_eq_false (by omega)
  have HSD := Lib.hid h300
  have HA1 := Lib.hid (HAW.out w1 B1.out)
  clear h300
  go_wp2_with fail
  refine HA1.out.mono ?_
  rintro r w2 ⟨rfl, q2⟩
  have B2 := Lib.hid (B1.out.trans (q2.mono B1.out.size))
  have SRC2 := Lib.hid (SRC1.out.below q2 SRC1.out.lt)
  have HN := Lib.hid (new_yes w2 seed 1 0 (by omega) (by decide) (by have := HSD.out; omega))
  clear q2 SRC1 B1 HA1 HAW
  go_wp2_with fail
  refine HN.out.mono ?_
  rintro r w3 ⟨⟨kb, rfl, hk3, hkb⟩, b3⟩
  have B3 := Lib.hid (B2.out.trans (b3.mono B2.out.size))
  have SRC3 := Lib.hid (SRC2.out.below b3 SRC2.out.lt)
  have HKB := Lib.hid (show w.heap.size < kb from Nat.lt_of_lt_of_le SRC2.out.lt hkb)
  have K3 := Lib.hid hk3
  have x2 : w3.cell? ⟨w.heap.size, 2, none⟩ = some (.slice a e.parents.length c) := SRC3.out.cell 2
  have x2a : ∀ o, (w3.alloc o).cell? ⟨w.heap.size, 2, none⟩ = some (.slice a e.parents.length c) := fun o => (SRC3.out.alloc o).cell 2
  have HO3 := Lib.hid (own_empty6 (w := w3) (Nat.le_refl _))
  have HR3 := Lib.hid (HROW.out (w3.alloc (.cells #[] 9)) (B3.out.alloc B3.out.size _))
  have HL1 : Hid (e.parents.length ≤ maxLen) := Lib.hid (by have := HLEN.out; unfold maxLen; omega)
  have HL2 : Hid (e.parents.length * 16 ≤ 140737488355328) := Lib.hid (by have := HLEN.out; omega)
  clear hk3 hkb b3 SRC2 B2 HN
  go_wp2_with (at_builtin; refine wpList_append_rows rfl _ _ 22 rfl w3.heap.size 9 i0 Tryz.underlying22 hi0 hz0 hz1 hz2 _ rfl HO3.out a e.parents c rfl HR3.out HL1.out HL2.out (by simp) ?_)
  intro v9 w9 ho9 hg9
  obtain ⟨a9, c9, rfl, r9, _, hb9⟩ := own_strsS ho9 rfl
  have GA := Lib.hid (Lib.grownBy_trans (Lib.grownBy_below (World.grownBy.refl w3 (some w3.heap.size)) (alloc_below w3 (.cells #[] 9))) hg9)
  have B9 := Lib.hid (B3.out.grown GA.out B3.out.size (fun k hk => by cases hk; exact B3.out.size))
  have SRC9 := Lib.hid (SRC3.out.grown GA.out (by have := SRC3.out.lt; simp; omega))
  have K9 := Lib.hid (show KeyFresh w9 kb seed 1 0 from Blk.grown K3.out GA.out (by have := Blk.lt K3.out; simp; omega))
  have WAS9 := Lib.hid r9
  have HW9 := Lib.hid (fun W (hg : w9.grownBy W (some kb)) => rowGrown WAS9.out hg (fun x off hx _ => by have := (hb9 x off hx).1; have := Blk.lt K3.out; omega))
  have HROW9 := Lib.hid (fun W (hg : w9.grownBy W (some kb)) => rowGrown (HROW.out w9 B9.out) hg (fun x off hx h0 => by
    rcases HE.out.row with h1 | ⟨x', off', e', hx', _⟩
    · exact absurd h1 h0
    · rw [hx] at e'; cases e'; have := HKB.out; omega))
  have CAME9 := Lib.hid (HE.out.below B9.out)
  have T9 := Lib.hid (TabsK.of HT.out B9.out (Nat.le_of_lt HKB.out))
  clear ho9 hg9 r9 hb9 GA SRC3 K3 B3 x2 x2a HO3 HR3 HL1 HL2
  have x0 : w9.cell? ⟨w.heap.size, 0, none⟩ = some (.int .i64 e.kind) := SRC9.out.cell 0
  have x1 : w9.cell? ⟨w.heap.size, 1, none⟩ = some (.string e.author) := SRC9.out.cell 1
  have x2 : w9.cell? ⟨w.heap.size, 2, none⟩ = some (.slice a e.parents.length c) := SRC9.out.cell 2
  have x3 : w9.cell? ⟨w.heap.size, 3, none⟩ = some (.string e.body) := SRC9.out.cell 3
  have x4 : w9.cell? ⟨w.heap.size, 4, none⟩ = some (.string e.sig) := SRC9.out.cell 4
  go_wp2_with fail
  have hsg := evsign_form w9 e a c kb seed 1 0 CAME9.out HROW9.out (by omega) (by have := HSD.out; omega) T9.out (.inl K9.out) hok
  unfold evV at hsg
  simp only [zero, List.length_nil] at hsg
  refine hsg.mono ?_
  rintro r w10 ⟨rfl, k10, g10⟩
  clear hsg
  clear x0 x1 x2 x3 x4
  have SRC10 := Lib.hid (SRC9.out.grown g10 (by have := HKB.out; simp; omega))
  have ROW10 := Lib.hid (HROW9.out w10 g10)
  have WAS10 := Lib.hid (HW9.out w10 g10)
  have B10 := Lib.hid (B9.out.grown g10 B9.out.size (fun k hk => by cases hk; exact Nat.le_of_lt HKB.out))
  have K10 := Lib.hid k10
  clear g10 k10 SRC9 HROW9 HW9 B9 K9 WAS9
  have x0 : w10.cell? ⟨w.heap.size, 0, none⟩ = some (.int .i64 e.kind) := SRC10.out.cell 0
  have x1 : w10.cell? ⟨w.heap.size, 1, none⟩ = some (.string e.author) := SRC10.out.cell 1
  have x2 : w10.cell? ⟨w.heap.size, 2, none⟩ = some (.slice a e.parents.length c) := SRC10.out.cell 2
  have x3 : w10.cell? ⟨w.heap.size, 3, none⟩ = some (.string e.body) := SRC10.out.cell 3
  have x4 : w10.cell? ⟨w.heap.size, 4, none⟩ = some (.string e.sig) := SRC10.out.cell 4
  have z0 : ∀ o, (w10.alloc o).cell? ⟨w.heap.size, 0, none⟩ = some (.int .i64 e.kind) := fun o => (SRC10.out.alloc o).cell 0
  have z1 : ∀ o, (w10.alloc o).cell? ⟨w.heap.size, 1, none⟩ = some (.string e.author) := fun o => (SRC10.out.alloc o).cell 1
  have z2 : ∀ o, (w10.alloc o).cell? ⟨w.heap.size, 2, none⟩ = some (.slice a e.parents.length c) := fun o => (SRC10.out.alloc o).cell 2
  have z3 : ∀ o, (w10.alloc o).cell? ⟨w.heap.size, 3, none⟩ = some (.string e.body) := fun o => (SRC10.out.alloc o).cell 3
  have z4 : ∀ o, (w10.alloc o).cell? ⟨w.heap.size, 4, none⟩ = some (.string e.sig) := fun o => (SRC10.out.alloc o).cell 4
  go_wp2_with fail
  obtain ⟨w11, hw11⟩ : ∃ W, W = (w10.alloc (.cells #[.int .i64 0, .string ⟨#[]⟩, .slice none 0 0, .string ⟨#[]⟩, .string ⟨#[]⟩] 24)).alloc (.cells #[.int .i64 e.kind, .string e.author, .slice a e.parents.length c, .string e.body, .string e.sig] 24) := ⟨_, rfl⟩
  have GOT := Lib.hid (show Blk w11 w10.heap.size 24 [.int .i64 0, .string ⟨#[]⟩, .slice none 0 0, .string ⟨#[]⟩, .string ⟨#[]⟩] by rw [hw11]; exact (Blk.new w10 _ [_, _, _, _, _]).alloc _)
  have WANT := Lib.hid (show Blk w11 (w10.heap.size + 1) 24 [.int .i64 e.kind, .string e.author, .slice a e.parents.length c, .string e.body, .string e.sig] by rw [hw11]; exact Blk.new' _ _ [_, _, _, _, _] (by simp))
  have N11 := Lib.hid (show Below w10.heap.size w10 w11 by rw [hw11]; exact (alloc_below w10 _).alloc (by simp) _)
  rw [← hw11]
  clear hw11 x0 x1 x2 x3 x4 z0 z1 z2 z3 z4
  have HPU := refpublic5 w11 seed 1 (by omega) (by have := HSD.out; omega)
  refine HPU.mono ?_
  rintro r w12 ⟨rfl, b12⟩
  have GOT2 := Lib.hid (GOT.out.below b12 GOT.out.lt)
  have WANT2 := Lib.hid (WANT.out.below b12 WANT.out.lt)
  have N12 := Lib.hid (N11.out.trans (b12.mono N11.out.size))
  clear HPU b12 GOT WANT N11
  have y0 : w12.cell? ⟨w10.heap.size + 1, 0, none⟩ = some (.int .i64 e.kind) := WANT2.out.cell 0
  have y1 : w12.cell? ⟨w10.heap.size + 1, 1, none⟩ = some (.string e.author) := WANT2.out.cell 1
  have y2 : w12.cell? ⟨w10.heap.size + 1, 2, none⟩ = some (.slice a e.parents.length c) := WANT2.out.cell 2
  have y3 : w12.cell? ⟨w10.heap.size + 1, 3, none⟩ = some (.string e.body) := WANT2.out.cell 3
  have y4 : w12.cell? ⟨w10.heap.size + 1, 4, none⟩ = some (.string e.sig) := WANT2.out.cell 4
  have yf : ∀ i, w12.frozen? ⟨w10.heap.size + 1, i, none⟩ = false := WANT2.out.frozen
  go_wp2_with fail
  obtain ⟨w13, hw13⟩ : ∃ W, W = (w12.setCell ⟨w10.heap.size + 1, 1, none⟩ (.string (keyB seed 1))).setCell ⟨w10.heap.size + 1, 4, none⟩ (.string ⟨#[]⟩) := ⟨_, rfl⟩
  have GOT3 := Lib.hid (show Blk w13 w10.heap.size 24 [.int .i64 0, .string ⟨#[]⟩, .slice none 0 0, .string ⟨#[]⟩, .string ⟨#[]⟩] by rw [hw13]; exact (GOT2.out.other (by simp) _).other (by simp) _)
  have WANT3 := Lib.hid (show Blk w13 (w10.heap.size + 1) 24 [.int .i64 e.kind, .string (keyB seed 1), .slice a e.parents.length c, .string e.body, .string ⟨#[]⟩] by rw [hw13]; exact (WANT2.out.set 1 _).set 4 _)
  have N13 := Lib.hid (show Below w10.heap.size w10 w13 by rw [hw13]; exact (N12.out.setCell (by simp) _).setCell (by simp) _)
  rw [← hw13]
  clear hw13 y0 y1 y2 y3 y4 yf GOT2 WANT2 N12
  have hrt := fun W (hb : Below w10.heap.size w10 W) => refright_any W (noSig (authE e (keyB seed 1))) a c (ROW10.out.below hb) HE.out.len HE.out.each HE.out.body
  rw [hok] at hrt
  unfold evV noSig authE at hrt
  simp only [] at hrt
  have HRT := Lib.hid hrt
  clear hrt
  refine (HRT.out w13 N13.out).mono ?_
  rintro r w14 ⟨rfl, b14⟩
  have GOT4 := Lib.hid (GOT3.out.below b14 GOT3.out.lt)
  have WANT4 := Lib.hid (WANT3.out.below b14 WANT3.out.lt)
  have N14 := Lib.hid (N13.out.trans (b14.mono N13.out.size))
  clear b14 GOT3 WANT3 N13
  have y0 : w14.cell? ⟨w10.heap.size + 1, 0, none⟩ = some (.int .i64 e.kind) := WANT4.out.cell 0
  have y1 : w14.cell? ⟨w10.heap.size + 1, 1, none⟩ = some (.string (keyB seed 1)) := WANT4.out.cell 1
  have y2 : w14.cell? ⟨w10.heap.size + 1, 2, none⟩ = some (.slice a e.parents.length c) := WANT4.out.cell 2
  have y3 : w14.cell? ⟨w10.heap.size + 1, 3, none⟩ = some (.string e.body) := WANT4.out.cell 3
  have y4 : w14.cell? ⟨w10.heap.size + 1, 4, none⟩ = some (.string ⟨#[]⟩) := WANT4.out.cell 4
  go_wp2_with fail
  refine (HRT.out w14 N14.out).mono ?_
  rintro r w15 ⟨rfl, b15⟩
  have GOT5 := Lib.hid (GOT4.out.below b15 GOT4.out.lt)
  have N15 := Lib.hid (N14.out.trans (b15.mono N14.out.size))
  clear b15 GOT4 WANT4 N14 y0 y1 y2 y3 y4 HRT
  have y0 : w15.cell? ⟨w10.heap.size, 0, none⟩ = some (.int .i64 0) := GOT5.out.cell 0
  have y1 : w15.cell? ⟨w10.heap.size, 1, none⟩ = some (.string ⟨#[]⟩) := GOT5.out.cell 1
  have y2 : w15.cell? ⟨w10.heap.size, 2, none⟩ = some (.slice none 0 0) := GOT5.out.cell 2
  have y3 : w15.cell? ⟨w10.heap.size, 3, none⟩ = some (.string ⟨#[]⟩) := GOT5.out.cell 3
  have y4 : w15.cell? ⟨w10.heap.size, 4, none⟩ = some (.string ⟨#[]⟩) := GOT5.out.cell 4
  have hsm := same_true w15 zero none none 0 0 (.inl rfl) (.inl rfl) (by decide)
  unfold evV at hsm
  simp only [zero, List.length_nil] at hsm
  go_wp2_with fail
  refine hsm.mono ?_
  rintro r w16 ⟨rfl, b16⟩
  have N16 := Lib.hid (N15.out.trans (b16.mono N15.out.size))
  clear b16 hsm y0 y1 y2 y3 y4 N15 GOT5
  have HU := Lib.hid (used_any w16 kb seed 1 0 (.inr (K10.out.below N16.out)))
  go_wp2_with (go_at_call 12; refine HU.out.mono ?_; rintro r w17 ⟨rfl, e17⟩; rw [← e17]; clear e17 w17)
  go_ret
  exact ⟨rfl, B10.out.trans (N16.out.mono B10.out.size)⟩


set_option maxHeartbeats 4000000 in
set_option maxRecDepth 100000 in
theorem walk_form2 (e : E) (a : Option Addr) (c : Nat) (seed : ByteArray) (w : World) (he : Came w e a c) (hz : seed.size ≤ maxLen) (ht : Tabs w) (hok : evOk (noSig (authE e (keyB seed 1))) = false) :
    Calls Tryz.prog 3 #[evV e a c, .string seed, .bool true] w fun r w' => r = .returned (.bool true) ∧ Below w.heap.size w w' := by
  have HG1 := Lib.hid (great_len (w.alloc (.cells #[.int .i64 e.kind, .string e.author, .slice a e.parents.length c, .string e.body, .string e.sig] 24)) e a c (he.row.below (alloc_below w _)) he.len he.each)
  have HAW := Lib.hid (fun (W : World) (hb : Below w.heap.size w W) => awake6 W (ht.below hb))
  have HROW := Lib.hid (fun W (hb : Below w.heap.size w W) => he.row.below hb)
  have HT := Lib.hid ht
  have HE := Lib.hid he
  obtain ⟨i0, hi0, hz0, hz1, hz2⟩ := info_parts (show (Tryz.prog.info? 9).map (fun i => (i.zero, i.size, i.bytes)) = some (some (.string ⟨#[]⟩), 1, 16) by kernel_rfl)
  have hnot : ∀ (x : Bool) (w : World), (Op.unary .not (.bool x)).run Tryz.prog w = .ok (.bool (!x)) w := fun _ _ => rfl
  clear he ht hz
  unfold evV at HG1 ⊢
  go_enter Tryz.func3, Tryz.ntmps3
  go_wp2_with fail
  refine HG1.out.mono ?_
  rintro r w1 ⟨⟨g, rfl, hlen⟩, q1⟩
  have B1 := Lib.hid ((alloc_below w _).trans (q1.mono (alloc_below w _).size))
  have SRC1 := Lib.hid (show Blk w1 w.heap.size 24 [.int .i64 e.kind, .string e.author, .slice a e.parents.length c, .string e.body, .string e.sig] from (Blk.new w _ [_, _, _, _, _]).below q1 (by simp))
  clear q1 HG1
  cases g
  case true =>
    have HA1 := Lib.hid (HAW.out w1 B1.out)
    go_wp2_with fail
    refine HA1.out.mono ?_
    rintro r w2 ⟨rfl, q2⟩
    go_wp2
    go_ret
    exact ⟨rfl, B1.out.trans (q2.mono B1.out.size)⟩
  have HLEN := Lib.hid (hlen rfl)
  clear hlen
  by_cases h300 : 300 < seed.size
  · have d1 : decide (300 < (seed.size : Int)) = true := decide_eq_true (by omega)
    have HA1 := Lib.hid (HAW.out w1 B1.out)
    clear h300
    go_wp2_with fail
    refine HA1.out.mono ?_
    rintro r w2 ⟨rfl, q2⟩
    go_wp2
    go_ret
    exact ⟨rfl, B1.out.trans (q2.mono B1.out.size)⟩
  have d1 : decide (300 < (seed.size : Int)) = false := decide_eq_false (by omega)
  have HSD := Lib.hid h300
  have HA1 := Lib.hid (HAW.out w1 B1.out)
  clear h300
  go_wp2_with fail
  refine HA1.out.mono ?_
  rintro r w2 ⟨rfl, q2⟩
  have B2 := Lib.hid (B1.out.trans (q2.mono B1.out.size))
  have SRC2 := Lib.hid (SRC1.out.below q2 SRC1.out.lt)
  have HN := Lib.hid (new_yes w2 seed 1 2 (by omega) (by decide) (by have := HSD.out; omega))
  clear q2 SRC1 B1 HA1 HAW
  go_wp2_with fail
  refine HN.out.mono ?_
  rintro r w3 ⟨⟨kb, rfl, hk3, hkb⟩, b3⟩
  have B3 := Lib.hid (B2.out.trans (b3.mono B2.out.size))
  have SRC3 := Lib.hid (SRC2.out.below b3 SRC2.out.lt)
  have HKB := Lib.hid (show w.heap.size < kb from Nat.lt_of_lt_of_le SRC2.out.lt hkb)
  have K3 := Lib.hid hk3
  have x2 : w3.cell? ⟨w.heap.size, 2, none⟩ = some (.slice a e.parents.length c) := SRC3.out.cell 2
  have x2a : ∀ o, (w3.alloc o).cell? ⟨w.heap.size, 2, none⟩ = some (.slice a e.parents.length c) := fun o => (SRC3.out.alloc o).cell 2
  have HO3 := Lib.hid (own_empty6 (w := w3) (Nat.le_refl _))
  have HR3 := Lib.hid (HROW.out (w3.alloc (.cells #[] 9)) (B3.out.alloc B3.out.size _))
  have HL1 : Hid (e.parents.length ≤ maxLen) := Lib.hid (by have := HLEN.out; unfold maxLen; omega)
  have HL2 : Hid (e.parents.length * 16 ≤ 140737488355328) := Lib.hid (by have := HLEN.out; omega)
  clear hk3 hkb b3 SRC2 B2 HN
  go_wp2_with (at_builtin; refine wpList_append_rows rfl _ _ 22 rfl w3.heap.size 9 i0 Tryz.underlying22 hi0 hz0 hz1 hz2 _ rfl HO3.out a e.parents c rfl HR3.out HL1.out HL2.out (by simp) ?_)
  intro v9 w9 ho9 hg9
  obtain ⟨a9, c9, rfl, r9, _, hb9⟩ := own_strsS ho9 rfl
  have GA := Lib.hid (Lib.grownBy_trans (Lib.grownBy_below (World.grownBy.refl w3 (some w3.heap.size)) (alloc_below w3 (.cells #[] 9))) hg9)
  have B9 := Lib.hid (B3.out.grown GA.out B3.out.size (fun k hk => by cases hk; exact B3.out.size))
  have SRC9 := Lib.hid (SRC3.out.grown GA.out (by have := SRC3.out.lt; simp; omega))
  have K9 := Lib.hid (show KeyFresh w9 kb seed 1 2 from Blk.grown K3.out GA.out (by have := Blk.lt K3.out; simp; omega))
  have WAS9 := Lib.hid r9
  have HW9 := Lib.hid (fun W (hg : w9.grownBy W (some kb)) => rowGrown WAS9.out hg (fun x off hx _ => by have := (hb9 x off hx).1; have := Blk.lt K3.out; omega))
  have HROW9 := Lib.hid (fun W (hg : w9.grownBy W (some kb)) => rowGrown (HROW.out w9 B9.out) hg (fun x off hx h0 => by
    rcases HE.out.row with h1 | ⟨x', off', e', hx', _⟩
    · exact absurd h1 h0
    · rw [hx] at e'; cases e'; have := HKB.out; omega))
  have CAME9 := Lib.hid (HE.out.below B9.out)
  have T9 := Lib.hid (TabsK.of HT.out B9.out (Nat.le_of_lt HKB.out))
  clear ho9 hg9 r9 hb9 GA SRC3 K3 B3 x2 x2a HO3 HR3 HL1 HL2
  have x0 : w9.cell? ⟨w.heap.size, 0, none⟩ = some (.int .i64 e.kind) := SRC9.out.cell 0
  have x1 : w9.cell? ⟨w.heap.size, 1, none⟩ = some (.string e.author) := SRC9.out.cell 1
  have x2 : w9.cell? ⟨w.heap.size, 2, none⟩ = some (.slice a e.parents.length c) := SRC9.out.cell 2
  have x3 : w9.cell? ⟨w.heap.size, 3, none⟩ = some (.string e.body) := SRC9.out.cell 3
  have x4 : w9.cell? ⟨w.heap.size, 4, none⟩ = some (.string e.sig) := SRC9.out.cell 4
  go_wp2_with fail
  have hsg := evsign_form w9 e a c kb seed 1 2 CAME9.out HROW9.out (by omega) (by have := HSD.out; omega) T9.out (.inl K9.out) hok
  unfold evV at hsg
  simp only [zero, List.length_nil] at hsg
  refine hsg.mono ?_
  rintro r w10 ⟨rfl, k10, g10⟩
  clear hsg
  clear x0 x1 x2 x3 x4
  have SRC10 := Lib.hid (SRC9.out.grown g10 (by have := HKB.out; simp; omega))
  have ROW10 := Lib.hid (HROW9.out w10 g10)
  have WAS10 := Lib.hid (HW9.out w10 g10)
  have B10 := Lib.hid (B9.out.grown g10 B9.out.size (fun k hk => by cases hk; exact Nat.le_of_lt HKB.out))
  have K10 := Lib.hid k10
  clear g10 k10 SRC9 HROW9 HW9 B9 K9 WAS9
  have x0 : w10.cell? ⟨w.heap.size, 0, none⟩ = some (.int .i64 e.kind) := SRC10.out.cell 0
  have x1 : w10.cell? ⟨w.heap.size, 1, none⟩ = some (.string e.author) := SRC10.out.cell 1
  have x2 : w10.cell? ⟨w.heap.size, 2, none⟩ = some (.slice a e.parents.length c) := SRC10.out.cell 2
  have x3 : w10.cell? ⟨w.heap.size, 3, none⟩ = some (.string e.body) := SRC10.out.cell 3
  have x4 : w10.cell? ⟨w.heap.size, 4, none⟩ = some (.string e.sig) := SRC10.out.cell 4
  have z0 : ∀ o, (w10.alloc o).cell? ⟨w.heap.size, 0, none⟩ = some (.int .i64 e.kind) := fun o => (SRC10.out.alloc o).cell 0
  have z1 : ∀ o, (w10.alloc o).cell? ⟨w.heap.size, 1, none⟩ = some (.string e.author) := fun o => (SRC10.out.alloc o).cell 1
  have z2 : ∀ o, (w10.alloc o).cell? ⟨w.heap.size, 2, none⟩ = some (.slice a e.parents.length c) := fun o => (SRC10.out.alloc o).cell 2
  have z3 : ∀ o, (w10.alloc o).cell? ⟨w.heap.size, 3, none⟩ = some (.string e.body) := fun o => (SRC10.out.alloc o).cell 3
  have z4 : ∀ o, (w10.alloc o).cell? ⟨w.heap.size, 4, none⟩ = some (.string e.sig) := fun o => (SRC10.out.alloc o).cell 4
  go_wp2_with fail
  obtain ⟨w11, hw11⟩ : ∃ W, W = (w10.alloc (.cells #[.int .i64 0, .string ⟨#[]⟩, .slice none 0 0, .string ⟨#[]⟩, .string ⟨#[]⟩] 24)).alloc (.cells #[.int .i64 e.kind, .string e.author, .slice a e.parents.length c, .string e.body, .string e.sig] 24) := ⟨_, rfl⟩
  have GOT := Lib.hid (show Blk w11 w10.heap.size 24 [.int .i64 0, .string ⟨#[]⟩, .slice none 0 0, .string ⟨#[]⟩, .string ⟨#[]⟩] by rw [hw11]; exact (Blk.new w10 _ [_, _, _, _, _]).alloc _)
  have WANT := Lib.hid (show Blk w11 (w10.heap.size + 1) 24 [.int .i64 e.kind, .string e.author, .slice a e.parents.length c, .string e.body, .string e.sig] by rw [hw11]; exact Blk.new' _ _ [_, _, _, _, _] (by simp))
  have N11 := Lib.hid (show Below w10.heap.size w10 w11 by rw [hw11]; exact (alloc_below w10 _).alloc (by simp) _)
  rw [← hw11]
  clear hw11 x0 x1 x2 x3 x4 z0 z1 z2 z3 z4
  have HPU := refpublic5 w11 seed 1 (by omega) (by have := HSD.out; omega)
  refine HPU.mono ?_
  rintro r w12 ⟨rfl, b12⟩
  have GOT2 := Lib.hid (GOT.out.below b12 GOT.out.lt)
  have WANT2 := Lib.hid (WANT.out.below b12 WANT.out.lt)
  have N12 := Lib.hid (N11.out.trans (b12.mono N11.out.size))
  clear HPU b12 GOT WANT N11
  have y0 : w12.cell? ⟨w10.heap.size + 1, 0, none⟩ = some (.int .i64 e.kind) := WANT2.out.cell 0
  have y1 : w12.cell? ⟨w10.heap.size + 1, 1, none⟩ = some (.string e.author) := WANT2.out.cell 1
  have y2 : w12.cell? ⟨w10.heap.size + 1, 2, none⟩ = some (.slice a e.parents.length c) := WANT2.out.cell 2
  have y3 : w12.cell? ⟨w10.heap.size + 1, 3, none⟩ = some (.string e.body) := WANT2.out.cell 3
  have y4 : w12.cell? ⟨w10.heap.size + 1, 4, none⟩ = some (.string e.sig) := WANT2.out.cell 4
  have yf : ∀ i, w12.frozen? ⟨w10.heap.size + 1, i, none⟩ = false := WANT2.out.frozen
  go_wp2_with fail
  obtain ⟨w13, hw13⟩ : ∃ W, W = (w12.setCell ⟨w10.heap.size + 1, 1, none⟩ (.string (keyB seed 1))).setCell ⟨w10.heap.size + 1, 4, none⟩ (.string ⟨#[]⟩) := ⟨_, rfl⟩
  have GOT3 := Lib.hid (show Blk w13 w10.heap.size 24 [.int .i64 0, .string ⟨#[]⟩, .slice none 0 0, .string ⟨#[]⟩, .string ⟨#[]⟩] by rw [hw13]; exact (GOT2.out.other (by simp) _).other (by simp) _)
  have WANT3 := Lib.hid (show Blk w13 (w10.heap.size + 1) 24 [.int .i64 e.kind, .string (keyB seed 1), .slice a e.parents.length c, .string e.body, .string ⟨#[]⟩] by rw [hw13]; exact (WANT2.out.set 1 _).set 4 _)
  have N13 := Lib.hid (show Below w10.heap.size w10 w13 by rw [hw13]; exact (N12.out.setCell (by simp) _).setCell (by simp) _)
  rw [← hw13]
  clear hw13 y0 y1 y2 y3 y4 yf GOT2 WANT2 N12
  have hrt := fun W (hb : Below w10.heap.size w10 W) => refright_any W (noSig (authE e (keyB seed 1))) a c (ROW10.out.below hb) HE.out.len HE.out.each HE.out.body
  rw [hok] at hrt
  unfold evV noSig authE at hrt
  simp only [] at hrt
  have HRT := Lib.hid hrt
  clear hrt
  refine (HRT.out w13 N13.out).mono ?_
  rintro r w14 ⟨rfl, b14⟩
  have GOT4 := Lib.hid (GOT3.out.below b14 GOT3.out.lt)
  have WANT4 := Lib.hid (WANT3.out.below b14 WANT3.out.lt)
  have N14 := Lib.hid (N13.out.trans (b14.mono N13.out.size))
  clear b14 GOT3 WANT3 N13
  have y0 : w14.cell? ⟨w10.heap.size + 1, 0, none⟩ = some (.int .i64 e.kind) := WANT4.out.cell 0
  have y1 : w14.cell? ⟨w10.heap.size + 1, 1, none⟩ = some (.string (keyB seed 1)) := WANT4.out.cell 1
  have y2 : w14.cell? ⟨w10.heap.size + 1, 2, none⟩ = some (.slice a e.parents.length c) := WANT4.out.cell 2
  have y3 : w14.cell? ⟨w10.heap.size + 1, 3, none⟩ = some (.string e.body) := WANT4.out.cell 3
  have y4 : w14.cell? ⟨w10.heap.size + 1, 4, none⟩ = some (.string ⟨#[]⟩) := WANT4.out.cell 4
  go_wp2_with fail
  refine (HRT.out w14 N14.out).mono ?_
  rintro r w15 ⟨rfl, b15⟩
  have GOT5 := Lib.hid (GOT4.out.below b15 GOT4.out.lt)
  have N15 := Lib.hid (N14.out.trans (b15.mono N14.out.size))
  clear b15 GOT4 WANT4 N14 y0 y1 y2 y3 y4 HRT
  have y0 : w15.cell? ⟨w10.heap.size, 0, none⟩ = some (.int .i64 0) := GOT5.out.cell 0
  have y1 : w15.cell? ⟨w10.heap.size, 1, none⟩ = some (.string ⟨#[]⟩) := GOT5.out.cell 1
  have y2 : w15.cell? ⟨w10.heap.size, 2, none⟩ = some (.slice none 0 0) := GOT5.out.cell 2
  have y3 : w15.cell? ⟨w10.heap.size, 3, none⟩ = some (.string ⟨#[]⟩) := GOT5.out.cell 3
  have y4 : w15.cell? ⟨w10.heap.size, 4, none⟩ = some (.string ⟨#[]⟩) := GOT5.out.cell 4
  have hsm := same_true w15 zero none none 0 0 (.inl rfl) (.inl rfl) (by decide)
  unfold evV at hsm
  simp only [zero, List.length_nil] at hsm
  go_wp2_with fail
  refine hsm.mono ?_
  rintro r w16 ⟨rfl, b16⟩
  have N16 := Lib.hid (N15.out.trans (b16.mono N15.out.size))
  clear b16 hsm y0 y1 y2 y3 y4 N15 GOT5
  have HU := Lib.hid (used_any w16 kb seed 1 2 (.inr (K10.out.below N16.out)))
  go_wp2_with (go_at_call 12; refine HU.out.mono ?_; rintro r w17 ⟨rfl, e17⟩; rw [← e17]; clear e17 w17)
  go_ret
  exact ⟨rfl, B10.out.trans (N16.out.mono B10.out.size)⟩


set_option maxHeartbeats 4000000 in
set_option maxRecDepth 100000 in
theorem walk_spent (e : E) (a : Option Addr) (c : Nat) (seed : ByteArray) (w : World) (he : Came w e a c) (hz : seed.size ≤ maxLen) (ht : Tabs w) (hok : evOk (noSig (authE e (keyB seed 1))) = true) :
    Calls Tryz.prog 3 #[evV e a c, .string seed, .bool true] w fun r w' => r = .returned (.bool true) ∧ Below w.heap.size w w' := by
  have HG1 := Lib.hid (great_len (w.alloc (.cells #[.int .i64 e.kind, .string e.author, .slice a e.parents.length c, .string e.body, .string e.sig] 24)) e a c (he.row.below (alloc_below w _)) he.len he.each)
  have HAW := Lib.hid (fun (W : World) (hb : Below w.heap.size w W) => awake6 W (ht.below hb))
  have HROW := Lib.hid (fun W (hb : Below w.heap.size w W) => he.row.below hb)
  have HT := Lib.hid ht
  have HE := Lib.hid he
  obtain ⟨i0, hi0, hz0, hz1, hz2⟩ := info_parts (show (Tryz.prog.info? 9).map (fun i => (i.zero, i.size, i.bytes)) = some (some (.string ⟨#[]⟩), 1, 16) by kernel_rfl)
  have hnot : ∀ (x : Bool) (w : World), (Op.unary .not (.bool x)).run Tryz.prog w = .ok (.bool (!x)) w := fun _ _ => rfl
  clear he ht hz
  unfold evV at HG1 ⊢
  go_enter Tryz.func3, Tryz.ntmps3
  go_wp2_with fail
  refine HG1.out.mono ?_
  rintro r w1 ⟨⟨g, rfl, hlen⟩, q1⟩
  have B1 := Lib.hid ((alloc_below w _).trans (q1.mono (alloc_below w _).size))
  have SRC1 := Lib.hid (show Blk w1 w.heap.size 24 [.int .i64 e.kind, .string e.author, .slice a e.parents.length c, .string e.body, .string e.sig] from (Blk.new w _ [_, _, _, _, _]).below q1 (by simp))
  clear q1 HG1
  cases g
  case true =>
    have HA1 := Lib.hid (HAW.out w1 B1.out)
    go_wp2_with fail
    refine HA1.out.mono ?_
    rintro r w2 ⟨rfl, q2⟩
    go_wp2
    go_ret
    exact ⟨rfl, B1.out.trans (q2.mono B1.out.size)⟩
  have HLEN := Lib.hid (hlen rfl)
  clear hlen
  by_cases h300 : 300 < seed.size
  · have d1 : decide (300 < (seed.size : Int)) = true := decide_eq_true (by omega)
    have HA1 := Lib.hid (HAW.out w1 B1.out)
    clear h300
    go_wp2_with fail
    refine HA1.out.mono ?_
    rintro r w2 ⟨rfl, q2⟩
    go_wp2
    go_ret
    exact ⟨rfl, B1.out.trans (q2.mono B1.out.size)⟩
  have d1 : decide (300 < (seed.size : Int)) = false := decide_eq_false (by omega)
  have HSD := Lib.hid h300
  have HA1 := Lib.hid (HAW.out w1 B1.out)
  clear h300
  go_wp2_with fail
  refine HA1.out.mono ?_
  rintro r w2 ⟨rfl, q2⟩
  have B2 := Lib.hid (B1.out.trans (q2.mono B1.out.size))
  have SRC2 := Lib.hid (SRC1.out.below q2 SRC1.out.lt)
  have HN := Lib.hid (new_yes w2 seed 1 2 (by omega) (by decide) (by have := HSD.out; omega))
  clear q2 SRC1 B1 HA1 HAW
  go_wp2_with fail
  refine HN.out.mono ?_
  rintro r w3 ⟨⟨kb, rfl, hk3, hkb⟩, b3⟩
  have B3 := Lib.hid (B2.out.trans (b3.mono B2.out.size))
  have SRC3 := Lib.hid (SRC2.out.below b3 SRC2.out.lt)
  have HKB := Lib.hid (show w.heap.size < kb from Nat.lt_of_lt_of_le SRC2.out.lt hkb)
  have K3 := Lib.hid hk3
  have x2 : w3.cell? ⟨w.heap.size, 2, none⟩ = some (.slice a e.parents.length c) := SRC3.out.cell 2
  have x2a : ∀ o, (w3.alloc o).cell? ⟨w.heap.size, 2, none⟩ = some (.slice a e.parents.length c) := fun o => (SRC3.out.alloc o).cell 2
  have HO3 := Lib.hid (own_empty6 (w := w3) (Nat.le_refl _))
  have HR3 := Lib.hid (HROW.out (w3.alloc (.cells #[] 9)) (B3.out.alloc B3.out.size _))
  have HL1 : Hid (e.parents.length ≤ maxLen) := Lib.hid (by have := HLEN.out; unfold maxLen; omega)
  have HL2 : Hid (e.parents.length * 16 ≤ 140737488355328) := Lib.hid (by have := HLEN.out; omega)
  clear hk3 hkb b3 SRC2 B2 HN
  go_wp2_with (at_builtin; refine wpList_append_rows rfl _ _ 22 rfl w3.heap.size 9 i0 Tryz.underlying22 hi0 hz0 hz1 hz2 _ rfl HO3.out a e.parents c rfl HR3.out HL1.out HL2.out (by simp) ?_)
  intro v9 w9 ho9 hg9
  obtain ⟨a9, c9, rfl, r9, _, hb9⟩ := own_strsS ho9 rfl
  have GA := Lib.hid (Lib.grownBy_trans (Lib.grownBy_below (World.grownBy.refl w3 (some w3.heap.size)) (alloc_below w3 (.cells #[] 9))) hg9)
  have B9 := Lib.hid (B3.out.grown GA.out B3.out.size (fun k hk => by cases hk; exact B3.out.size))
  have SRC9 := Lib.hid (SRC3.out.grown GA.out (by have := SRC3.out.lt; simp; omega))
  have K9 := Lib.hid (show KeyFresh w9 kb seed 1 2 from Blk.grown K3.out GA.out (by have := Blk.lt K3.out; simp; omega))
  have WAS9 := Lib.hid r9
  have HW9 := Lib.hid (fun W (hg : w9.grownBy W (some kb)) => rowGrown WAS9.out hg (fun x off hx _ => by have := (hb9 x off hx).1; have := Blk.lt K3.out; omega))
  have HROW9 := Lib.hid (fun W (hg : w9.grownBy W (some kb)) => rowGrown (HROW.out w9 B9.out) hg (fun x off hx h0 => by
    rcases HE.out.row with h1 | ⟨x', off', e', hx', _⟩
    · exact absurd h1 h0
    · rw [hx] at e'; cases e'; have := HKB.out; omega))
  have CAME9 := Lib.hid (HE.out.below B9.out)
  have T9 := Lib.hid (TabsK.of HT.out B9.out (Nat.le_of_lt HKB.out))
  clear ho9 hg9 r9 hb9 GA SRC3 K3 B3 x2 x2a HO3 HR3 HL1 HL2
  have x0 : w9.cell? ⟨w.heap.size, 0, none⟩ = some (.int .i64 e.kind) := SRC9.out.cell 0
  have x1 : w9.cell? ⟨w.heap.size, 1, none⟩ = some (.string e.author) := SRC9.out.cell 1
  have x2 : w9.cell? ⟨w.heap.size, 2, none⟩ = some (.slice a e.parents.length c) := SRC9.out.cell 2
  have x3 : w9.cell? ⟨w.heap.size, 3, none⟩ = some (.string e.body) := SRC9.out.cell 3
  have x4 : w9.cell? ⟨w.heap.size, 4, none⟩ = some (.string e.sig) := SRC9.out.cell 4
  go_wp2_with fail
  have hsg := evsign_spent w9 e a c kb seed 1 2 CAME9.out HROW9.out (by omega) (by have := HSD.out; omega) T9.out (.inl K9.out) HE.out.cap rfl hok
  unfold evV at hsg
  simp only [zero, List.length_nil] at hsg
  refine hsg.mono ?_
  rintro r w10 ⟨rfl, k10, g10⟩
  clear hsg
  clear x0 x1 x2 x3 x4
  have SRC10 := Lib.hid (SRC9.out.grown g10 (by have := HKB.out; simp; omega))
  have ROW10 := Lib.hid (HROW9.out w10 g10)
  have WAS10 := Lib.hid (HW9.out w10 g10)
  have B10 := Lib.hid (B9.out.grown g10 B9.out.size (fun k hk => by cases hk; exact Nat.le_of_lt HKB.out))
  have K10 := Lib.hid k10
  clear g10 k10 SRC9 HROW9 HW9 B9 K9 WAS9
  have x0 : w10.cell? ⟨w.heap.size, 0, none⟩ = some (.int .i64 e.kind) := SRC10.out.cell 0
  have x1 : w10.cell? ⟨w.heap.size, 1, none⟩ = some (.string e.author) := SRC10.out.cell 1
  have x2 : w10.cell? ⟨w.heap.size, 2, none⟩ = some (.slice a e.parents.length c) := SRC10.out.cell 2
  have x3 : w10.cell? ⟨w.heap.size, 3, none⟩ = some (.string e.body) := SRC10.out.cell 3
  have x4 : w10.cell? ⟨w.heap.size, 4, none⟩ = some (.string e.sig) := SRC10.out.cell 4
  have z0 : ∀ o, (w10.alloc o).cell? ⟨w.heap.size, 0, none⟩ = some (.int .i64 e.kind) := fun o => (SRC10.out.alloc o).cell 0
  have z1 : ∀ o, (w10.alloc o).cell? ⟨w.heap.size, 1, none⟩ = some (.string e.author) := fun o => (SRC10.out.alloc o).cell 1
  have z2 : ∀ o, (w10.alloc o).cell? ⟨w.heap.size, 2, none⟩ = some (.slice a e.parents.length c) := fun o => (SRC10.out.alloc o).cell 2
  have z3 : ∀ o, (w10.alloc o).cell? ⟨w.heap.size, 3, none⟩ = some (.string e.body) := fun o => (SRC10.out.alloc o).cell 3
  have z4 : ∀ o, (w10.alloc o).cell? ⟨w.heap.size, 4, none⟩ = some (.string e.sig) := fun o => (SRC10.out.alloc o).cell 4
  go_wp2_with fail
  obtain ⟨w11, hw11⟩ : ∃ W, W = (w10.alloc (.cells #[.int .i64 0, .string ⟨#[]⟩, .slice none 0 0, .string ⟨#[]⟩, .string ⟨#[]⟩] 24)).alloc (.cells #[.int .i64 e.kind, .string e.author, .slice a e.parents.length c, .string e.body, .string e.sig] 24) := ⟨_, rfl⟩
  have GOT := Lib.hid (show Blk w11 w10.heap.size 24 [.int .i64 0, .string ⟨#[]⟩, .slice none 0 0, .string ⟨#[]⟩, .string ⟨#[]⟩] by rw [hw11]; exact (Blk.new w10 _ [_, _, _, _, _]).alloc _)
  have WANT := Lib.hid (show Blk w11 (w10.heap.size + 1) 24 [.int .i64 e.kind, .string e.author, .slice a e.parents.length c, .string e.body, .string e.sig] by rw [hw11]; exact Blk.new' _ _ [_, _, _, _, _] (by simp))
  have N11 := Lib.hid (show Below w10.heap.size w10 w11 by rw [hw11]; exact (alloc_below w10 _).alloc (by simp) _)
  rw [← hw11]
  clear hw11 x0 x1 x2 x3 x4 z0 z1 z2 z3 z4
  have HPU := refpublic5 w11 seed 1 (by omega) (by have := HSD.out; omega)
  refine HPU.mono ?_
  rintro r w12 ⟨rfl, b12⟩
  have GOT2 := Lib.hid (GOT.out.below b12 GOT.out.lt)
  have WANT2 := Lib.hid (WANT.out.below b12 WANT.out.lt)
  have N12 := Lib.hid (N11.out.trans (b12.mono N11.out.size))
  clear HPU b12 GOT WANT N11
  have y0 : w12.cell? ⟨w10.heap.size + 1, 0, none⟩ = some (.int .i64 e.kind) := WANT2.out.cell 0
  have y1 : w12.cell? ⟨w10.heap.size + 1, 1, none⟩ = some (.string e.author) := WANT2.out.cell 1
  have y2 : w12.cell? ⟨w10.heap.size + 1, 2, none⟩ = some (.slice a e.parents.length c) := WANT2.out.cell 2
  have y3 : w12.cell? ⟨w10.heap.size + 1, 3, none⟩ = some (.string e.body) := WANT2.out.cell 3
  have y4 : w12.cell? ⟨w10.heap.size + 1, 4, none⟩ = some (.string e.sig) := WANT2.out.cell 4
  have yf : ∀ i, w12.frozen? ⟨w10.heap.size + 1, i, none⟩ = false := WANT2.out.frozen
  go_wp2_with fail
  obtain ⟨w13, hw13⟩ : ∃ W, W = (w12.setCell ⟨w10.heap.size + 1, 1, none⟩ (.string (keyB seed 1))).setCell ⟨w10.heap.size + 1, 4, none⟩ (.string ⟨#[]⟩) := ⟨_, rfl⟩
  have GOT3 := Lib.hid (show Blk w13 w10.heap.size 24 [.int .i64 0, .string ⟨#[]⟩, .slice none 0 0, .string ⟨#[]⟩, .string ⟨#[]⟩] by rw [hw13]; exact (GOT2.out.other (by simp) _).other (by simp) _)
  have WANT3 := Lib.hid (show Blk w13 (w10.heap.size + 1) 24 [.int .i64 e.kind, .string (keyB seed 1), .slice a e.parents.length c, .string e.body, .string ⟨#[]⟩] by rw [hw13]; exact (WANT2.out.set 1 _).set 4 _)
  have N13 := Lib.hid (show Below w10.heap.size w10 w13 by rw [hw13]; exact (N12.out.setCell (by simp) _).setCell (by simp) _)
  rw [← hw13]
  clear hw13 y0 y1 y2 y3 y4 yf GOT2 WANT2 N12
  have hrt := fun W (hb : Below w10.heap.size w10 W) => refright_any W (noSig (authE e (keyB seed 1))) a c (ROW10.out.below hb) HE.out.len HE.out.each HE.out.body
  rw [hok] at hrt
  unfold evV noSig authE at hrt
  simp only [] at hrt
  have HRT := Lib.hid hrt
  clear hrt
  refine (HRT.out w13 N13.out).mono ?_
  rintro r w14 ⟨rfl, b14⟩
  have GOT4 := Lib.hid (GOT3.out.below b14 GOT3.out.lt)
  have WANT4 := Lib.hid (WANT3.out.below b14 WANT3.out.lt)
  have N14 := Lib.hid (N13.out.trans (b14.mono N13.out.size))
  clear b14 GOT3 WANT3 N13
  have y0 : w14.cell? ⟨w10.heap.size + 1, 0, none⟩ = some (.int .i64 e.kind) := WANT4.out.cell 0
  have y1 : w14.cell? ⟨w10.heap.size + 1, 1, none⟩ = some (.string (keyB seed 1)) := WANT4.out.cell 1
  have y2 : w14.cell? ⟨w10.heap.size + 1, 2, none⟩ = some (.slice a e.parents.length c) := WANT4.out.cell 2
  have y3 : w14.cell? ⟨w10.heap.size + 1, 3, none⟩ = some (.string e.body) := WANT4.out.cell 3
  have y4 : w14.cell? ⟨w10.heap.size + 1, 4, none⟩ = some (.string ⟨#[]⟩) := WANT4.out.cell 4
  go_wp2_with fail
  refine (HRT.out w14 N14.out).mono ?_
  rintro r w15 ⟨rfl, b15⟩
  have GOT5 := Lib.hid (GOT4.out.below b15 GOT4.out.lt)
  have N15 := Lib.hid (N14.out.trans (b15.mono N14.out.size))
  clear b15 GOT4 WANT4 N14 y0 y1 y2 y3 y4 HRT
  have y0 : w15.cell? ⟨w10.heap.size, 0, none⟩ = some (.int .i64 0) := GOT5.out.cell 0
  have y1 : w15.cell? ⟨w10.heap.size, 1, none⟩ = some (.string ⟨#[]⟩) := GOT5.out.cell 1
  have y2 : w15.cell? ⟨w10.heap.size, 2, none⟩ = some (.slice none 0 0) := GOT5.out.cell 2
  have y3 : w15.cell? ⟨w10.heap.size, 3, none⟩ = some (.string ⟨#[]⟩) := GOT5.out.cell 3
  have y4 : w15.cell? ⟨w10.heap.size, 4, none⟩ = some (.string ⟨#[]⟩) := GOT5.out.cell 4
  have hsm := same_true w15 zero none none 0 0 (.inl rfl) (.inl rfl) (by decide)
  unfold evV at hsm
  simp only [zero, List.length_nil] at hsm
  go_wp2_with fail
  refine hsm.mono ?_
  rintro r w16 ⟨rfl, b16⟩
  have N16 := Lib.hid (N15.out.trans (b16.mono N15.out.size))
  clear b16 hsm y0 y1 y2 y3 y4 N15 GOT5
  have HU := Lib.hid (used_any w16 kb seed 1 2 (.inr (K10.out.below N16.out)))
  go_wp2_with (go_at_call 12; refine HU.out.mono ?_; rintro r w17 ⟨rfl, e17⟩; rw [← e17]; clear e17 w17)
  go_ret
  exact ⟨rfl, B10.out.trans (N16.out.mono B10.out.size)⟩


set_option maxHeartbeats 4000000 in
set_option maxRecDepth 100000 in
theorem walk_ok (e : E) (a : Option Addr) (c : Nat) (seed : ByteArray) (w : World) (he : Came w e a c) (hz : seed.size ≤ maxLen) (ht : Tabs w) (hok : evOk (noSig (authE e (keyB seed 1))) = true) :
    Calls Tryz.prog 3 #[evV e a c, .string seed, .bool false] w fun r w' => r = .returned (.bool true) ∧ Below w.heap.size w w' := by
  have HG1 := Lib.hid (great_len (w.alloc (.cells #[.int .i64 e.kind, .string e.author, .slice a e.parents.length c, .string e.body, .string e.sig] 24)) e a c (he.row.below (alloc_below w _)) he.len he.each)
  have HAW := Lib.hid (fun (W : World) (hb : Below w.heap.size w W) => awake6 W (ht.below hb))
  have HROW := Lib.hid (fun W (hb : Below w.heap.size w W) => he.row.below hb)
  have HT := Lib.hid ht
  have HE := Lib.hid he
  obtain ⟨i0, hi0, hz0, hz1, hz2⟩ := info_parts (show (Tryz.prog.info? 9).map (fun i => (i.zero, i.size, i.bytes)) = some (some (.string ⟨#[]⟩), 1, 16) by kernel_rfl)
  have hnot : ∀ (x : Bool) (w : World), (Op.unary .not (.bool x)).run Tryz.prog w = .ok (.bool (!x)) w := fun _ _ => rfl
  clear he ht hz
  unfold evV at HG1 ⊢
  go_enter Tryz.func3, Tryz.ntmps3
  go_wp2_with fail
  refine HG1.out.mono ?_
  rintro r w1 ⟨⟨g, rfl, hlen⟩, q1⟩
  have B1 := Lib.hid ((alloc_below w _).trans (q1.mono (alloc_below w _).size))
  have SRC1 := Lib.hid (show Blk w1 w.heap.size 24 [.int .i64 e.kind, .string e.author, .slice a e.parents.length c, .string e.body, .string e.sig] from (Blk.new w _ [_, _, _, _, _]).below q1 (by simp))
  clear q1 HG1
  cases g
  case true =>
    have HA1 := Lib.hid (HAW.out w1 B1.out)
    go_wp2_with fail
    refine HA1.out.mono ?_
    rintro r w2 ⟨rfl, q2⟩
    go_wp2
    go_ret
    exact ⟨rfl, B1.out.trans (q2.mono B1.out.size)⟩
  have HLEN := Lib.hid (hlen rfl)
  clear hlen
  by_cases h300 : 300 < seed.size
  · have d1 : decide (300 < (seed.size : Int)) = true := decide_eq_true (by omega)
    have HA1 := Lib.hid (HAW.out w1 B1.out)
    clear h300
    go_wp2_with fail
    refine HA1.out.mono ?_
    rintro r w2 ⟨rfl, q2⟩
    go_wp2
    go_ret
    exact ⟨rfl, B1.out.trans (q2.mono B1.out.size)⟩
  have d1 : decide (300 < (seed.size : Int)) = false := decide_eq_false (by omega)
  have HSD := Lib.hid h300
  have HA1 := Lib.hid (HAW.out w1 B1.out)
  clear h300
  go_wp2_with fail
  refine HA1.out.mono ?_
  rintro r w2 ⟨rfl, q2⟩
  have B2 := Lib.hid (B1.out.trans (q2.mono B1.out.size))
  have SRC2 := Lib.hid (SRC1.out.below q2 SRC1.out.lt)
  have HN := Lib.hid (new_yes w2 seed 1 0 (by omega) (by decide) (by have := HSD.out; omega))
  clear q2 SRC1 B1 HA1 HAW
  go_wp2_with fail
  refine HN.out.mono ?_
  rintro r w3 ⟨⟨kb, rfl, hk3, hkb⟩, b3⟩
  have B3 := Lib.hid (B2.out.trans (b3.mono B2.out.size))
  have SRC3 := Lib.hid (SRC2.out.below b3 SRC2.out.lt)
  have HKB := Lib.hid (show w.heap.size < kb from Nat.lt_of_lt_of_le SRC2.out.lt hkb)
  have K3 := Lib.hid hk3
  have x2 : w3.cell? ⟨w.heap.size, 2, none⟩ = some (.slice a e.parents.length c) := SRC3.out.cell 2
  have x2a : ∀ o, (w3.alloc o).cell? ⟨w.heap.size, 2, none⟩ = some (.slice a e.parents.length c) := fun o => (SRC3.out.alloc o).cell 2
  have HO3 := Lib.hid (own_empty6 (w := w3) (Nat.le_refl _))
  have HR3 := Lib.hid (HROW.out (w3.alloc (.cells #[] 9)) (B3.out.alloc B3.out.size _))
  have HL1 : Hid (e.parents.length ≤ maxLen) := Lib.hid (by have := HLEN.out; unfold maxLen; omega)
  have HL2 : Hid (e.parents.length * 16 ≤ 140737488355328) := Lib.hid (by have := HLEN.out; omega)
  clear hk3 hkb b3 SRC2 B2 HN
  go_wp2_with (at_builtin; refine wpList_append_rows rfl _ _ 22 rfl w3.heap.size 9 i0 Tryz.underlying22 hi0 hz0 hz1 hz2 _ rfl HO3.out a e.parents c rfl HR3.out HL1.out HL2.out (by simp) ?_)
  intro v9 w9 ho9 hg9
  obtain ⟨a9, c9, rfl, r9, _, hb9⟩ := own_strsS ho9 rfl
  have GA := Lib.hid (Lib.grownBy_trans (Lib.grownBy_below (World.grownBy.refl w3 (some w3.heap.size)) (alloc_below w3 (.cells #[] 9))) hg9)
  have B9 := Lib.hid (B3.out.grown GA.out B3.out.size (fun k hk => by cases hk; exact B3.out.size))
  have SRC9 := Lib.hid (SRC3.out.grown GA.out (by have := SRC3.out.lt; simp; omega))
  have K9 := Lib.hid (show KeyFresh w9 kb seed 1 0 from Blk.grown K3.out GA.out (by have := Blk.lt K3.out; simp; omega))
  have WAS9 := Lib.hid r9
  have HW9 := Lib.hid (fun W (hg : w9.grownBy W (some kb)) => rowGrown WAS9.out hg (fun x off hx _ => by have := (hb9 x off hx).1; have := Blk.lt K3.out; omega))
  have HROW9 := Lib.hid (fun W (hg : w9.grownBy W (some kb)) => rowGrown (HROW.out w9 B9.out) hg (fun x off hx h0 => by
    rcases HE.out.row with h1 | ⟨x', off', e', hx', _⟩
    · exact absurd h1 h0
    · rw [hx] at e'; cases e'; have := HKB.out; omega))
  have CAME9 := Lib.hid (HE.out.below B9.out)
  have T9 := Lib.hid (TabsK.of HT.out B9.out (Nat.le_of_lt HKB.out))
  clear ho9 hg9 r9 hb9 GA SRC3 K3 B3 x2 x2a HO3 HR3 HL1 HL2
  have x0 : w9.cell? ⟨w.heap.size, 0, none⟩ = some (.int .i64 e.kind) := SRC9.out.cell 0
  have x1 : w9.cell? ⟨w.heap.size, 1, none⟩ = some (.string e.author) := SRC9.out.cell 1
  have x2 : w9.cell? ⟨w.heap.size, 2, none⟩ = some (.slice a e.parents.length c) := SRC9.out.cell 2
  have x3 : w9.cell? ⟨w.heap.size, 3, none⟩ = some (.string e.body) := SRC9.out.cell 3
  have x4 : w9.cell? ⟨w.heap.size, 4, none⟩ = some (.string e.sig) := SRC9.out.cell 4
  go_wp2_with fail
  have hsg := evsign_ok w9 e a c kb seed 1 0 CAME9.out HROW9.out (by omega) (by have := HSD.out; omega) T9.out (.inl K9.out) (by decide) hok
  obtain ⟨C, hC⟩ : ∃ C, C = evC (authE e (keyB seed 1)) := ⟨_, rfl⟩
  obtain ⟨S, hS⟩ : ∃ S, S = sigB seed 1 0 C := ⟨_, rfl⟩
  rw [← hC, ← hS] at hsg
  have hCz := evC_size hok
  rw [← hC] at hCz
  have hok1 := sig_ok seed 1 0 C (by omega) (by decide)
  have hrt := sig_right seed 1 0 C (by decide)
  rw [← hS] at hok1 hrt
  have HS2 := Lib.hid hS
  have HC2 := Lib.hid hC
  clear hS hC
  unfold evV authE at hsg
  simp only [] at hsg
  refine hsg.mono ?_
  rintro r w10 ⟨⟨a', c', rfl, r', hc', hf'⟩, k10, g10⟩
  have R10 := Lib.hid r'
  have HC10 := Lib.hid hc'
  have HF10 := Lib.hid hf'
  have HZ9 := Lib.hid SRC9.out.lt
  have HWL := Lib.hid (show ∀ x off, a9 = some ⟨x, off, none⟩ → e.parents ≠ [] → x < w9.heap.size from fun x off hx h0 => by
    rcases WAS9.out with h1 | ⟨x', off', e', hx', _⟩
    · exact absurd h1 h0
    · rw [hx] at e'; cases e'; exact hx')
  clear hsg r' hc' hf'
  clear x0 x1 x2 x3 x4
  have SRC10 := Lib.hid (SRC9.out.grown g10 (by have := HKB.out; simp; omega))
  have ROW10 := Lib.hid (HROW9.out w10 g10)
  have WAS10 := Lib.hid (HW9.out w10 g10)
  have B10 := Lib.hid (B9.out.grown g10 B9.out.size (fun k hk => by cases hk; exact Nat.le_of_lt HKB.out))
  have K10 := Lib.hid k10
  clear g10 k10 SRC9 HROW9 HW9 B9 K9 WAS9
  have x0 : w10.cell? ⟨w.heap.size, 0, none⟩ = some (.int .i64 e.kind) := SRC10.out.cell 0
  have x1 : w10.cell? ⟨w.heap.size, 1, none⟩ = some (.string e.author) := SRC10.out.cell 1
  have x2 : w10.cell? ⟨w.heap.size, 2, none⟩ = some (.slice a e.parents.length c) := SRC10.out.cell 2
  have x3 : w10.cell? ⟨w.heap.size, 3, none⟩ = some (.string e.body) := SRC10.out.cell 3
  have x4 : w10.cell? ⟨w.heap.size, 4, none⟩ = some (.string e.sig) := SRC10.out.cell 4
  have z0 : ∀ o, (w10.alloc o).cell? ⟨w.heap.size, 0, none⟩ = some (.int .i64 e.kind) := fun o => (SRC10.out.alloc o).cell 0
  have z1 : ∀ o, (w10.alloc o).cell? ⟨w.heap.size, 1, none⟩ = some (.string e.author) := fun o => (SRC10.out.alloc o).cell 1
  have z2 : ∀ o, (w10.alloc o).cell? ⟨w.heap.size, 2, none⟩ = some (.slice a e.parents.length c) := fun o => (SRC10.out.alloc o).cell 2
  have z3 : ∀ o, (w10.alloc o).cell? ⟨w.heap.size, 3, none⟩ = some (.string e.body) := fun o => (SRC10.out.alloc o).cell 3
  have z4 : ∀ o, (w10.alloc o).cell? ⟨w.heap.size, 4, none⟩ = some (.string e.sig) := fun o => (SRC10.out.alloc o).cell 4
  go_wp2_with fail
  obtain ⟨w11, hw11⟩ : ∃ W, W = (w10.alloc (.cells #[.int .i64 e.kind, .string (keyB seed 1), .slice a' e.parents.length c', .string e.body, .string S] 24)).alloc (.cells #[.int .i64 e.kind, .string e.author, .slice a e.parents.length c, .string e.body, .string e.sig] 24) := ⟨_, rfl⟩
  have GOT := Lib.hid (show Blk w11 w10.heap.size 24 [.int .i64 e.kind, .string (keyB seed 1), .slice a' e.parents.length c', .string e.body, .string S] by rw [hw11]; exact (Blk.new w10 _ [_, _, _, _, _]).alloc _)
  have WANT := Lib.hid (show Blk w11 (w10.heap.size + 1) 24 [.int .i64 e.kind, .string e.author, .slice a e.parents.length c, .string e.body, .string e.sig] by rw [hw11]; exact Blk.new' _ _ [_, _, _, _, _] (by simp))
  have N11 := Lib.hid (show Below w10.heap.size w10 w11 by rw [hw11]; exact (alloc_below w10 _).alloc (by simp) _)
  rw [← hw11]
  clear hw11 x0 x1 x2 x3 x4 z0 z1 z2 z3 z4
  have HPU := refpublic5 w11 seed 1 (by omega) (by have := HSD.out; omega)
  refine HPU.mono ?_
  rintro r w12 ⟨rfl, b12⟩
  have GOT2 := Lib.hid (GOT.out.below b12 GOT.out.lt)
  have WANT2 := Lib.hid (WANT.out.below b12 WANT.out.lt)
  have N12 := Lib.hid (N11.out.trans (b12.mono N11.out.size))
  clear HPU b12 GOT WANT N11
  have y0 : w12.cell? ⟨w10.heap.size + 1, 0, none⟩ = some (.int .i64 e.kind) := WANT2.out.cell 0
  have y1 : w12.cell? ⟨w10.heap.size + 1, 1, none⟩ = some (.string e.author) := WANT2.out.cell 1
  have y2 : w12.cell? ⟨w10.heap.size + 1, 2, none⟩ = some (.slice a e.parents.length c) := WANT2.out.cell 2
  have y3 : w12.cell? ⟨w10.heap.size + 1, 3, none⟩ = some (.string e.body) := WANT2.out.cell 3
  have y4 : w12.cell? ⟨w10.heap.size + 1, 4, none⟩ = some (.string e.sig) := WANT2.out.cell 4
  have yf : ∀ i, w12.frozen? ⟨w10.heap.size + 1, i, none⟩ = false := WANT2.out.frozen
  go_wp2_with fail
  obtain ⟨w13, hw13⟩ : ∃ W, W = (w12.setCell ⟨w10.heap.size + 1, 1, none⟩ (.string (keyB seed 1))).setCell ⟨w10.heap.size + 1, 4, none⟩ (.string ⟨#[]⟩) := ⟨_, rfl⟩
  have GOT3 := Lib.hid (show Blk w13 w10.heap.size 24 [.int .i64 e.kind, .string (keyB seed 1), .slice a' e.parents.length c', .string e.body, .string S] by rw [hw13]; exact (GOT2.out.other (by simp) _).other (by simp) _)
  have WANT3 := Lib.hid (show Blk w13 (w10.heap.size + 1) 24 [.int .i64 e.kind, .string (keyB seed 1), .slice a e.parents.length c, .string e.body, .string ⟨#[]⟩] by rw [hw13]; exact (WANT2.out.set 1 _).set 4 _)
  have N13 := Lib.hid (show Below w10.heap.size w10 w13 by rw [hw13]; exact (N12.out.setCell (by simp) _).setCell (by simp) _)
  rw [← hw13]
  clear hw13 y0 y1 y2 y3 y4 yf GOT2 WANT2 N12
  have hrt := fun W (hb : Below w10.heap.size w10 W) => refright_any W (noSig (authE e (keyB seed 1))) a c (ROW10.out.below hb) HE.out.len HE.out.each HE.out.body
  rw [hok] at hrt
  unfold evV noSig authE at hrt
  simp only [] at hrt
  have HRT := Lib.hid hrt
  clear hrt
  refine (HRT.out w13 N13.out).mono ?_
  rintro r w14 ⟨rfl, b14⟩
  have GOT4 := Lib.hid (GOT3.out.below b14 GOT3.out.lt)
  have WANT4 := Lib.hid (WANT3.out.below b14 WANT3.out.lt)
  have N14 := Lib.hid (N13.out.trans (b14.mono N13.out.size))
  clear b14 GOT3 WANT3 N13
  have y0 : w14.cell? ⟨w10.heap.size + 1, 0, none⟩ = some (.int .i64 e.kind) := WANT4.out.cell 0
  have y1 : w14.cell? ⟨w10.heap.size + 1, 1, none⟩ = some (.string (keyB seed 1)) := WANT4.out.cell 1
  have y2 : w14.cell? ⟨w10.heap.size + 1, 2, none⟩ = some (.slice a e.parents.length c) := WANT4.out.cell 2
  have y3 : w14.cell? ⟨w10.heap.size + 1, 3, none⟩ = some (.string e.body) := WANT4.out.cell 3
  have y4 : w14.cell? ⟨w10.heap.size + 1, 4, none⟩ = some (.string ⟨#[]⟩) := WANT4.out.cell 4
  have hct := refcontent_any w14 (noSig (authE e (keyB seed 1))) a c (ROW10.out.below N14.out) hok
  rw [show evC (noSig (authE e (keyB seed 1))) = C from HC2.out.symm] at hct
  unfold evV at hct
  have HCT := Lib.hid (show Calls Tryz.prog 14 #[.agg #[.int .i64 e.kind, .string (keyB seed 1), .slice a e.parents.length c, .string e.body, .string ⟨#[]⟩]] w14 fun r w' => r = .returned (.string C) ∧ Below w14.heap.size w14 w' from hct)
  have HRS := Lib.hid (fun W => (by
    have h := refsign5 W seed 1 0 C (by omega) (by decide) (by have := HSD.out; omega) (by omega)
    rw [← HS2.out] at h
    exact h : Calls Tryz.prog 13 #[.string seed, .int .i64 1, .int .i64 0, .string C] W fun r w' => r = .returned (.string S) ∧ Below W.heap.size W w'))
  have hSz : S.size = 2 + 32 * (67 + 1) := hok1.hz
  have HVY := Lib.hid (fun W hT => (by
    have hv := verify_yes W (keyB seed 1) C S 1 0 hok1 (by omega) hT
    rw [hrt, (beqT _ _).2 rfl] at hv
    exact hv : Calls Tryz.prog 39 #[.string (keyB seed 1), .string C, .string S] W fun r w' => r = .returned (.bool true) ∧ Below W.heap.size W w'))
  have HOK2 := Lib.hid (okSig hok (s := S) (by omega))
  have HAZ := Lib.hid (show (keyB seed 1).size ≤ maxLen by have := (evOk_all hok).2.2.2.1; simp only [noSig, authE] at this; unfold maxLen; omega)
  have HSZ := Lib.hid (show S.size ≤ maxLen by unfold maxLen; omega)
  clear hct hCz hSz hok hok1 hrt HRT
  go_wp2_with fail
  refine HCT.out.mono ?_
  rintro r w15 ⟨rfl, b15⟩
  have GOT5 := Lib.hid (GOT4.out.below b15 GOT4.out.lt)
  have WANT5 := Lib.hid (WANT4.out.below b15 WANT4.out.lt)
  have N15 := Lib.hid (N14.out.trans (b15.mono N14.out.size))
  clear b15 GOT4 WANT4 N14 y0 y1 y2 y3 y4 HCT
  go_wp2_with fail
  refine (HRS.out w15).mono ?_
  rintro r w16 ⟨rfl, b16⟩
  have GOT6 := Lib.hid (GOT5.out.below b16 GOT5.out.lt)
  have WANT6 := Lib.hid (WANT5.out.below b16 WANT5.out.lt)
  have N16 := Lib.hid (N15.out.trans (b16.mono N15.out.size))
  clear b16 GOT5 WANT5 N15 HRS
  have y0 : w16.cell? ⟨w10.heap.size + 1, 0, none⟩ = some (.int .i64 e.kind) := WANT6.out.cell 0
  have y1 : w16.cell? ⟨w10.heap.size + 1, 1, none⟩ = some (.string (keyB seed 1)) := WANT6.out.cell 1
  have y2 : w16.cell? ⟨w10.heap.size + 1, 2, none⟩ = some (.slice a e.parents.length c) := WANT6.out.cell 2
  have y3 : w16.cell? ⟨w10.heap.size + 1, 3, none⟩ = some (.string e.body) := WANT6.out.cell 3
  have y4 : w16.cell? ⟨w10.heap.size + 1, 4, none⟩ = some (.string ⟨#[]⟩) := WANT6.out.cell 4
  have yf : w16.frozen? ⟨w10.heap.size + 1, 4, none⟩ = false := WANT6.out.frozen 4
  have g0 : w16.cell? ⟨w10.heap.size, 0, none⟩ = some (.int .i64 e.kind) := GOT6.out.cell 0
  have g1 : w16.cell? ⟨w10.heap.size, 1, none⟩ = some (.string (keyB seed 1)) := GOT6.out.cell 1
  have g2 : w16.cell? ⟨w10.heap.size, 2, none⟩ = some (.slice a' e.parents.length c') := GOT6.out.cell 2
  have g3 : w16.cell? ⟨w10.heap.size, 3, none⟩ = some (.string e.body) := GOT6.out.cell 3
  have g4 : w16.cell? ⟨w10.heap.size, 4, none⟩ = some (.string S) := GOT6.out.cell 4
  go_wp2_with fail
  obtain ⟨w17, hw17⟩ : ∃ W, W = w16.setCell ⟨w10.heap.size + 1, 4, none⟩ (.string S) := ⟨_, rfl⟩
  have GOT7 := Lib.hid (show Blk w17 w10.heap.size 24 [.int .i64 e.kind, .string (keyB seed 1), .slice a' e.parents.length c', .string e.body, .string S] by rw [hw17]; exact GOT6.out.other (by simp) _)
  have N17 := Lib.hid (show Below w10.heap.size w10 w17 by rw [hw17]; exact N16.out.setCell (by simp) _)
  rw [← hw17]
  clear hw17 y0 y1 y2 y3 y4 yf g0 g1 g2 g3 g4 GOT6 WANT6 N16
  have hsm := same_true w17 { authE e (keyB seed 1) with sig := S } a' a c' c (R10.out.below N17.out) (ROW10.out.below N17.out) (by have := HLEN.out; show e.parents.length ≤ _; omega)
  unfold evV authE at hsm
  simp only [] at hsm
  refine hsm.mono ?_
  rintro r w18 ⟨rfl, b18⟩
  have GOT8 := Lib.hid (GOT7.out.below b18 GOT7.out.lt)
  have N18 := Lib.hid (N17.out.trans (b18.mono N17.out.size))
  clear b18 hsm GOT7 N17
  have HU := Lib.hid (used_any w18 kb seed 1 _ (.inr (K10.out.below N18.out)))
  have g0 : w18.cell? ⟨w10.heap.size, 0, none⟩ = some (.int .i64 e.kind) := GOT8.out.cell 0
  have g1 : w18.cell? ⟨w10.heap.size, 1, none⟩ = some (.string (keyB seed 1)) := GOT8.out.cell 1
  have g2 : w18.cell? ⟨w10.heap.size, 2, none⟩ = some (.slice a' e.parents.length c') := GOT8.out.cell 2
  have g3 : w18.cell? ⟨w10.heap.size, 3, none⟩ = some (.string e.body) := GOT8.out.cell 3
  have g4 : w18.cell? ⟨w10.heap.size, 4, none⟩ = some (.string S) := GOT8.out.cell 4
  have hck := check_yes w18 { authE e (keyB seed 1) with sig := S } a' c' ⟨R10.out.below N18.out, HE.out.len, HC10.out, HE.out.each, HE.out.body, HAZ.out, HSZ.out⟩ HOK2.out (HT.out.below (B10.out.trans (N18.out.mono B10.out.size))) true (fun W hT => by rw [show evC { authE e (keyB seed 1) with sig := S } = C from HC2.out.symm]; exact HVY.out W hT)
  unfold evV authE at hck
  simp only [if_true] at hck
  have HCK := Lib.hid hck
  clear hck
  by_cases hp : e.parents.length = 0
  · have d3 : decide ((0 : Int) < (e.parents.length : Int)) = false := decide_eq_false (by omega)
    have d4 : ((e.parents.length : Int) == 0) = true := beq_iff_eq.2 (by omega)
    have d5 : ¬ (0 < e.parents.length) := by omega
    have d6 : ¬ ((0 : Int) < (e.parents.length : Int)) := by omega
    clear hp
    go_wp2_with (first | (go_at_call 12; refine HU.out.mono ?_; rintro r w19 ⟨rfl, e19⟩; rw [← e19]; clear e19 w19) | (go_at_call 15; refine HCK.out.mono ?_; rintro r w19 ⟨rfl, b19⟩; have GOT9 := Lib.hid (GOT8.out.below b19 GOT8.out.lt); have N19 := Lib.hid (N18.out.trans (b19.mono N18.out.size)); clear b19; have q2 : w19.cell? ⟨w10.heap.size, 2, none⟩ = some (.slice a' e.parents.length c') := GOT9.out.cell 2))
    go_quiet (fail)
    go_wp2
    go_ret
    exact ⟨rfl, below_drewN6 (B10.out.trans (N19.out.mono B10.out.size)) _⟩
  · have d3 : decide ((0 : Int) < (e.parents.length : Int)) = true := decide_eq_true (by omega)
    have d4 : ((e.parents.length : Int) == 0) = false := beq_eq_false_iff_ne.2 (by omega)
    have n0 : (0 : Int) < (e.parents.length : Int) := by omega
    have hp0 : 0 < e.parents.length := by omega
    have hpe : e.parents ≠ [] := fun h => hp (by rw [h]; rfl)
    obtain ⟨xa, oa, rfl, hxa, hca⟩ : ∃ x off, a = some ⟨x, off, none⟩ ∧ x < w.heap.size ∧ ∀ W, Below w10.heap.size w10 W → W.cell? ⟨x, off, none⟩ = some (.string (at' e.parents 0)) := by
      rcases HE.out.row with h1 | ⟨x, off, rfl, hx, _⟩
      · exact absurd h1 hpe
      · refine ⟨x, off, rfl, hx, fun W hW => ?_⟩
        rcases ROW10.out.below hW with h1 | ⟨x2, off2, e2, _, hc2⟩
        · exact absurd h1 hpe
        · cases e2; exact hc2 0 hp0
    obtain ⟨x9, o9, rfl, hx9, hc9⟩ : ∃ x off, a9 = some ⟨x, off, none⟩ ∧ x < w9.heap.size ∧ ∀ W, Below w10.heap.size w10 W → W.cell? ⟨x, off, none⟩ = some (.string (at' e.parents 0)) := by
      rcases WAS10.out with h1 | ⟨x, off, rfl, _, _⟩
      · exact absurd h1 hpe
      · refine ⟨x, off, rfl, HWL.out x off rfl hpe, fun W hW => ?_⟩
        rcases WAS10.out.below hW with h1 | ⟨x2, off2, e2, _, hc2⟩
        · exact absurd h1 hpe
        · cases e2; exact hc2 0 hp0
    obtain ⟨xp, op, rfl, hxp, hcp, hfp⟩ : ∃ x off, a' = some ⟨x, off, none⟩ ∧ w9.heap.size + 1 < x ∧ (∀ W, Below w10.heap.size w10 W → W.cell? ⟨x, off, none⟩ = some (.string (at' e.parents 0))) ∧ (∀ W, Below w10.heap.size w10 W → W.frozen? ⟨x, off, none⟩ = false) := by
      rcases R10.out with h1 | ⟨x, off, rfl, hx, _⟩
      · exact absurd h1 hpe
      · refine ⟨x, off, rfl, (HF10.out x off rfl).1, fun W hW => ?_, fun W hW => (hW.frozen (p := ⟨x, off, none⟩) hx).trans (HF10.out x off rfl).2⟩
        rcases R10.out.below hW with h1 | ⟨x2, off2, e2, _, hc2⟩
        · exact absurd h1 hpe
        · cases e2; exact hc2 0 hp0
    have heq := beqT6 (at' e.parents 0)
    generalize at' e.parents 0 = p at *
    have HCA := Lib.hid hca
    have HC9 := Lib.hid hc9
    have HCP := Lib.hid hcp
    have HFP := Lib.hid hfp
    have HX := Lib.hid (show xa < w.heap.size ∧ x9 < w9.heap.size ∧ w9.heap.size + 1 < xp ∧ w.heap.size < w9.heap.size from ⟨hxa, hx9, hxp, HZ9.out⟩)
    clear hp hpe hca hc9 hcp hfp hxa hx9 hxp HWL HF10 WAS10 ROW10 R10 CAME9 HE HROW
    go_wp2_with (first | (go_at_call 12; refine HU.out.mono ?_; rintro r w19 ⟨rfl, e19⟩; rw [← e19]; clear e19 w19) | (go_at_call 15; refine HCK.out.mono ?_; rintro r w19 ⟨rfl, b19⟩; have GOT9 := Lib.hid (GOT8.out.below b19 GOT8.out.lt); have N19 := Lib.hid (N18.out.trans (b19.mono N18.out.size)); clear b19; have q2 : w19.cell? ⟨w10.heap.size, 2, none⟩ = some (.slice (some ⟨xp, op, none⟩) e.parents.length c') := GOT9.out.cell 2; have qp := HCP.out w19 N19.out; have qf := HFP.out w19 N19.out))
    obtain ⟨w20, hw20⟩ : ∃ W, W = w19.setCell ⟨xp, op, none⟩ (.string ⟨#[115, 112, 111, 105, 108, 116]⟩) := ⟨_, rfl⟩
    have hxx := HX.out
    have u1 : w20.cell? ⟨w.heap.size, 2, none⟩ = some (.slice (some ⟨xa, oa, none⟩) e.parents.length c) := by
      rw [hw20, World.cell?_setCell_other (h := by intro h; cases h; omega)]
      exact (N19.out.cell (p := ⟨w.heap.size, 2, none⟩) (by have := SRC10.out.lt; exact this)).trans (SRC10.out.cell 2)
    have u2 : w20.cell? ⟨xa, oa, none⟩ = some (.string p) := by
      rw [hw20, World.cell?_setCell_other (h := by intro h; cases h; omega)]
      exact HCA.out w19 N19.out
    have u3 : w20.cell? ⟨x9, o9, none⟩ = some (.string p) := by
      rw [hw20, World.cell?_setCell_other (h := by intro h; cases h; omega)]
      exact HC9.out w19 N19.out
    have N20 := Lib.hid (show Below w.heap.size w w20 by rw [hw20]; exact (B10.out.trans (N19.out.mono B10.out.size)).setCell (by show w.heap.size ≤ xp; omega) _)
    rw [← hw20]
    clear hw20 hxx qp qf q2 g0 g1 g2 g3 g4
    go_quiet (fail)
    go_wp2
    go_ret
    exact ⟨rfl, below_drewN6 N20.out _⟩


theorem walk (e : E) (a : Option Addr) (c : Nat) (seed : ByteArray) (sp : Bool) (w : World) (he : Came w e a c) (hz : seed.size ≤ maxLen) (ht : Tabs w) :
    Calls Tryz.prog 3 #[evV e a c, .string seed, .bool sp] w fun r w' => r = .returned (.bool true) ∧ Below w.heap.size w w' := by
  cases hok : evOk (noSig (authE e (keyB seed 1))) with
  | false =>
    cases sp
    · exact walk_form0 e a c seed w he hz ht hok
    · exact walk_form2 e a c seed w he hz ht hok
  | true =>
    cases sp
    · exact walk_ok e a c seed w he hz ht hok
    · exact walk_spent e a c seed w he hz ht hok

theorem own : ownKnob Tryz.prog.godebug = none := by kernel_rfl
theorem laidOut : laidOutB Tryz.prog = true := by kernel_rfl

set_option maxRecDepth 100000 in
theorem contract (H : Type) (enc : TypeId × Value → H) (W : World) (base : Nat) (args : Array Value) (ds gs : List (DataW H)) (before : List MemPlace)
    (hval : ∀ (j : Nat) t v, Tryz.f3.params[j]? = some t → args[j]? = some v → Value.okWide Tryz.prog W .any base t v)
    (hW : DataW.Whole enc Tryz.prog Tryz.f3.params.toList Rows.eventSignsSpec.vars false W args.toList ds gs before) (hL : laidMetH Tryz.prog Rows.eventSignsRow.laid W) :
    Calls Tryz.prog 3 args W fun e W' => ∃ v, e = .returned v ∧ Rows.eventSignsSpec.post enc Tryz.prog Tryz.f3 false true false false W args v W' := by
  have hW' := hW
  obtain ⟨p, q, hA0, hV, rfl, hfz, hnd⟩ := hW
  have hA : DataW.TrodAll enc Tryz.prog W 0 (fun _ => true) true Tryz.f3.params.toList args.toList ds p := hA0
  rw [Tryz.params3] at hA hval
  obtain ⟨v0, vs0, d0, ds0, p0, q0, hargs, rfl, rfl, h0, r0⟩ := trodAll_cons hA
  obtain ⟨v1, vs1, d1, ds1, p1, q1, rfl, rfl, rfl, h1, r1⟩ := trodAll_cons r0
  obtain ⟨v2, vs2, d2, ds2, p2, q2, rfl, rfl, rfl, h2, r2⟩ := trodAll_cons r1
  obtain ⟨rfl, rfl, rfl⟩ := trodAll_nil r2
  obtain rfl : args = #[v0, v1, v2] := by cases args; simp_all
  obtain ⟨rfl, rfl⟩ := trodVars_none hV
  have k0 := h0
  have lt0 : ∀ x ∈ p0, x.block < W.heap.size := by obtain ⟨m, hm⟩ := k0; exact DataW.trod_lt m _ _ _ hm
  obtain ⟨e0, a0, c0, rfl, i0, _⟩ := open_event (hval 0 24 v0 rfl rfl) h0
  obtain ⟨a1, rfl, rfl, rfl, w1⟩ := open_string Tryz.underlying9 (hval 1 9 v1 rfl rfl) h1
  obtain ⟨a2, rfl, rfl, rfl⟩ := open_bool Tryz.underlying4 (hval 2 4 v2 rfl rfl) h2
  clear hA0
  refine (walk e0 a0 c0 a1 a2 W i0 w1 (tabs_of_laid hL)).mono fun e W' ⟨he, bel⟩ => ?_
  subst he
  exact ⟨_, rfl, _, _, _, [], _, [], hW', trodAll_mk1 (shut_bool Tryz.underlying4 _), (trodAll_cons_mk (Below.trod laidOut (by kernel_rfl) (of_decide_eq_true (by kernel_rfl)) k0 bel lt0) (trodAll_cons_mk (shut_string Tryz.underlying9 w1) (trodAll_cons_mk (shut_bool Tryz.underlying4 _) trodAll_mk0))), rfl, bel.frame _, fun h => by cases h⟩

theorem laid_met (os : Os) : laidMet Tryz.prog Rows.eventSignsRow.laid (({ World.holding Tryz.prog os ⟨#[], #[], []⟩ with heap := ((World.holding Tryz.prog os ⟨#[], #[], []⟩).heap.modify 0 fun | .cells _ t frozen => .cells #[.int .u32 1779033703, .int .u32 3144134277, .int .u32 1013904242, .int .u32 2773480762, .int .u32 1359893119, .int .u32 2600822924, .int .u32 528734635, .int .u32 1541459225] t frozen | o => o).modify 1 fun | .cells _ t frozen => .cells #[.int .u32 1116352408, .int .u32 1899447441, .int .u32 3049323471, .int .u32 3921009573, .int .u32 961987163, .int .u32 1508970993, .int .u32 2453635748, .int .u32 2870763221, .int .u32 3624381080, .int .u32 310598401, .int .u32 607225278, .int .u32 1426881987, .int .u32 1925078388, .int .u32 2162078206, .int .u32 2614888103, .int .u32 3248222580, .int .u32 3835390401, .int .u32 4022224774, .int .u32 264347078, .int .u32 604807628, .int .u32 770255983, .int .u32 1249150122, .int .u32 1555081692, .int .u32 1996064986, .int .u32 2554220882, .int .u32 2821834349, .int .u32 2952996808, .int .u32 3210313671, .int .u32 3336571891, .int .u32 3584528711, .int .u32 113926993, .int .u32 338241895, .int .u32 666307205, .int .u32 773529912, .int .u32 1294757372, .int .u32 1396182291, .int .u32 1695183700, .int .u32 1986661051, .int .u32 2177026350, .int .u32 2456956037, .int .u32 2730485921, .int .u32 2820302411, .int .u32 3259730800, .int .u32 3345764771, .int .u32 3516065817, .int .u32 3600352804, .int .u32 4094571909, .int .u32 275423344, .int .u32 430227734, .int .u32 506948616, .int .u32 659060556, .int .u32 883997877, .int .u32 958139571, .int .u32 1322822218, .int .u32 1537002063, .int .u32 1747873779, .int .u32 1955562222, .int .u32 2024104815, .int .u32 2227730452, .int .u32 2361852424, .int .u32 2428436474, .int .u32 2756734187, .int .u32 3204031479, .int .u32 3329325298] t frozen | o => o } : World).forCall (fun _ _ => 0) ⟨#[], #[.agg #[.int .i64 0, .string ByteArray.empty, .slice none 0 0, .string ByteArray.empty, .string ByteArray.empty], .string ByteArray.empty, .bool false], []⟩).memory :=
  laidMet_of_run' 8 (by kernel_rfl) (by kernel_rfl)
theorem reads (os : Os) {H : Type} (enc : TypeId × Value → H) : ∃ places, DataW.whole enc Tryz.prog (({ World.holding Tryz.prog os ⟨#[], #[], []⟩ with heap := ((World.holding Tryz.prog os ⟨#[], #[], []⟩).heap.modify 0 fun | .cells _ t frozen => .cells #[.int .u32 1779033703, .int .u32 3144134277, .int .u32 1013904242, .int .u32 2773480762, .int .u32 1359893119, .int .u32 2600822924, .int .u32 528734635, .int .u32 1541459225] t frozen | o => o).modify 1 fun | .cells _ t frozen => .cells #[.int .u32 1116352408, .int .u32 1899447441, .int .u32 3049323471, .int .u32 3921009573, .int .u32 961987163, .int .u32 1508970993, .int .u32 2453635748, .int .u32 2870763221, .int .u32 3624381080, .int .u32 310598401, .int .u32 607225278, .int .u32 1426881987, .int .u32 1925078388, .int .u32 2162078206, .int .u32 2614888103, .int .u32 3248222580, .int .u32 3835390401, .int .u32 4022224774, .int .u32 264347078, .int .u32 604807628, .int .u32 770255983, .int .u32 1249150122, .int .u32 1555081692, .int .u32 1996064986, .int .u32 2554220882, .int .u32 2821834349, .int .u32 2952996808, .int .u32 3210313671, .int .u32 3336571891, .int .u32 3584528711, .int .u32 113926993, .int .u32 338241895, .int .u32 666307205, .int .u32 773529912, .int .u32 1294757372, .int .u32 1396182291, .int .u32 1695183700, .int .u32 1986661051, .int .u32 2177026350, .int .u32 2456956037, .int .u32 2730485921, .int .u32 2820302411, .int .u32 3259730800, .int .u32 3345764771, .int .u32 3516065817, .int .u32 3600352804, .int .u32 4094571909, .int .u32 275423344, .int .u32 430227734, .int .u32 506948616, .int .u32 659060556, .int .u32 883997877, .int .u32 958139571, .int .u32 1322822218, .int .u32 1537002063, .int .u32 1747873779, .int .u32 1955562222, .int .u32 2024104815, .int .u32 2227730452, .int .u32 2361852424, .int .u32 2428436474, .int .u32 2756734187, .int .u32 3204031479, .int .u32 3329325298] t frozen | o => o } : World).forCall (fun _ _ => 0) ⟨#[], #[.agg #[.int .i64 0, .string ByteArray.empty, .slice none 0 0, .string ByteArray.empty, .string ByteArray.empty], .string ByteArray.empty, .bool false], []⟩).memory Tryz.f3.params.toList Rows.eventSignsSpec.vars false (#[.agg #[.int .i64 0, .string ByteArray.empty, .slice none 0 0, .string ByteArray.empty, .string ByteArray.empty], .string ByteArray.empty, .bool false] : Array Value).toList 8 = some ([.agg [.lit (.int .i64 0), .lit (.string []), .nil, .lit (.string []), .lit (.string [])], .lit (.string []), .lit (.bool false)], [], places) :=
  ⟨[], by kernel_rfl⟩

set_option maxRecDepth 100000 in
theorem lifted (os : Os) (started : os.Started) (H : Type) (enc : TypeId × Value → H) (F : Stop.Interp) :
    ReturnsInHanded {} Tryz.checked os 3 .any ((OpenSpec.ofChange Rows.eventSignsSpec).preRow enc Tryz.prog Tryz.f3 Rows.eventSignsRow.domain false Rows.eventSignsRow.laid) (((OpenSpec.ofChange Rows.eventSignsSpec).at F).post enc Tryz.prog Tryz.f3 false true false false) := by
  obtain ⟨places, hx⟩ := reads os enc
  refine returnsInHanded_of_row (C := Tryz.checked) (s := OpenSpec.ofChange Rows.eventSignsSpec) own started (by kernel_rfl) Tryz.func3
    (witness_row_at (enc := enc) (C := Tryz.checked) false ({ World.holding Tryz.prog os ⟨#[], #[], []⟩ with heap := ((World.holding Tryz.prog os ⟨#[], #[], []⟩).heap.modify 0 fun | .cells _ t frozen => .cells #[.int .u32 1779033703, .int .u32 3144134277, .int .u32 1013904242, .int .u32 2773480762, .int .u32 1359893119, .int .u32 2600822924, .int .u32 528734635, .int .u32 1541459225] t frozen | o => o).modify 1 fun | .cells _ t frozen => .cells #[.int .u32 1116352408, .int .u32 1899447441, .int .u32 3049323471, .int .u32 3921009573, .int .u32 961987163, .int .u32 1508970993, .int .u32 2453635748, .int .u32 2870763221, .int .u32 3624381080, .int .u32 310598401, .int .u32 607225278, .int .u32 1426881987, .int .u32 1925078388, .int .u32 2162078206, .int .u32 2614888103, .int .u32 3248222580, .int .u32 3835390401, .int .u32 4022224774, .int .u32 264347078, .int .u32 604807628, .int .u32 770255983, .int .u32 1249150122, .int .u32 1555081692, .int .u32 1996064986, .int .u32 2554220882, .int .u32 2821834349, .int .u32 2952996808, .int .u32 3210313671, .int .u32 3336571891, .int .u32 3584528711, .int .u32 113926993, .int .u32 338241895, .int .u32 666307205, .int .u32 773529912, .int .u32 1294757372, .int .u32 1396182291, .int .u32 1695183700, .int .u32 1986661051, .int .u32 2177026350, .int .u32 2456956037, .int .u32 2730485921, .int .u32 2820302411, .int .u32 3259730800, .int .u32 3345764771, .int .u32 3516065817, .int .u32 3600352804, .int .u32 4094571909, .int .u32 275423344, .int .u32 430227734, .int .u32 506948616, .int .u32 659060556, .int .u32 883997877, .int .u32 958139571, .int .u32 1322822218, .int .u32 1537002063, .int .u32 1747873779, .int .u32 1955562222, .int .u32 2024104815, .int .u32 2227730452, .int .u32 2361852424, .int .u32 2428436474, .int .u32 2756734187, .int .u32 3204031479, .int .u32 3329325298] t frozen | o => o } : World) #[.agg #[.int .i64 0, .string ByteArray.empty, .slice none 0 0, .string ByteArray.empty, .string ByteArray.empty], .string ByteArray.empty, .bool false] rfl (by kernel_rfl) (by kernel_rfl) (by kernel_rfl)
      (OpenSpec.preRow_of_cond 8 hx (by kernel_rfl) (fun k hk => by cases hk) (by kernel_rfl) (laid_met os))) ?_
  intro W base args ds gs before hval hW _ _ _ hL _ _
  exact contract H enc W base args ds gs before hval hW hL

theorem said : Rows.EventSignsSaid :=
  OpenClaim.holds_of_cond 3 Tryz.f3 rfl rfl rfl rfl rfl rfl rfl ⟨rfl, rfl, rfl, rfl, rfl⟩ rfl rfl rfl rfl rfl (by kernel_rfl) Tryz.func3 (by kernel_rfl)
    (of_decide_eq_true (by kernel_rfl)) (by unfold Func.isWrapper; first | (rw [if_pos (by decide +kernel)]; kernel_rfl) | (rw [if_neg (by decide +kernel)]; exact ⟨rfl, rfl⟩))
    (fun os started H enc _ F => by rw [OpenClaim.pre_eq_preRow]; exact lifted os started H enc F)

theorem plain (f : FuncId) (fn : Func) (hf : Tryz.pinned.checked.prog.funcNamed Rows.eventSignsRow.func = some f) (hfn : Tryz.pinned.checked.prog.funcs[f]? = some fn) :
    false = Tryz.pinned.checked.prog.looks [] ∧ ∀ (j : Nat) t, fn.params[j]? = some t → Tryz.pinned.checked.prog.wantsStandIn t = false := by
  obtain rfl : f = 3 := Option.some.inj ((show Tryz.prog.funcNamed Rows.eventSignsRow.func = some 3 by kernel_rfl).symm.trans hf) |>.symm
  obtain rfl : fn = Tryz.f3 := (Option.some.inj (Tryz.func3.symm.trans hfn)).symm
  refine ⟨by kernel_rfl, fun j t ht => ?_⟩
  rw [Tryz.params3] at ht
  have hm : t = 24 ∨ t = 9 ∨ t = 4 := by first | simpa using Array.mem_of_getElem? ht | (have h := Array.mem_of_getElem? ht; simp only [List.mem_toArray, List.mem_cons, List.not_mem_nil, or_false] at h; rcases h with rfl | rfl | rfl <;> simp)
  rcases hm with rfl | rfl | rfl
  · exact (show Tryz.prog.wantsStandIn 24 = false by kernel_rfl)
  · exact (show Tryz.prog.wantsStandIn 9 = false by kernel_rfl)
  · exact (show Tryz.prog.wantsStandIn 4 = false by kernel_rfl)

theorem card : Rows.EventSignsCardSaid :=
  Claim7.holds_tied_plain_at .later [] _ _ _ _ said (fun _ h => by cases h) (by kernel_rfl) (fun _ h => by cases h) eventSigns_row_tie rfl ⟨rfl, rfl⟩ (by kernel_rfl) rfl plain (by kernel_rfl)

end Go.Proofs.YtggfmnmopfdiaaaGreatDoor.EventSigns
namespace Go.Proofs.YtggfmnmopfdiaaaGreatDoor
theorem eventSigns_card : Rows.EventSignsCardSaid := EventSigns.card
#print axioms eventSigns_card
end Go.Proofs.YtggfmnmopfdiaaaGreatDoor

