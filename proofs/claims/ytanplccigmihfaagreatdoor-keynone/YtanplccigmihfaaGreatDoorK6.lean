/-
  Contracts of key: Sign.
-/
import Derived.Test.YtanplccigmihfaaGreatDoorK5
import Derived.Test.YtanplccigmihfaaGreatDoorJoin
import Derived.Test.YtanplccigmihfaaGreatDoorM3
import Derived.Test.YtanplccigmihfaaGreatDoorM7
namespace Go.Proofs.YtanplccigmihfaaGreatDoor
open Go.RowKit Go.Pal

theorem own_strs2 {w : World} {base : Nat} {t : TypeId} {v : Value} {n : Nat} {l : List ByteArray} (h : w.ownsRow base t 1 v n (l.map strV)) (hn : l.length = n) : ∃ a cap, v = .slice a l.length cap ∧ StrRow w a l ∧ l.length ≤ cap := by
  subst hn
  rcases h.2 with ⟨rfl, h0⟩ | ⟨g, cap, cur, rfl, hb, hg, hc, _⟩
  · exact ⟨none, 0, by rw [h0], .inl (List.eq_nil_of_length_eq_zero h0), by omega⟩
  · refine ⟨some ⟨g, 0, none⟩, cap, rfl, .inr ⟨g, 0, rfl, (h.lt g rfl).2, fun i hi => ?_⟩, hc⟩
    rw [Nat.zero_add, h.cellAt i (by omega), strs_get? l i hi]

theorem sign_nil (w : World) (m : ByteArray) :
    Calls Tryz.prog 18 #[.pointer none, .string m] w fun e w' => e = .returned (.tuple #[.string ⟨#[]⟩, .int .i64 1]) ∧ w = w' := by
  go_enter Tryz.func18, Tryz.ntmps18
  go_wp2
  go_ret2
  exact ⟨rfl, rfl⟩
set_option maxHeartbeats 400000 in
theorem sign_spent (w : World) (b : Nat) (seed : ByteArray) (h : Nat) (m : ByteArray) (hh : h ≤ 4) (hK : KeyAt w b seed h ((2 ^ h : Nat) : Int)) :
    Calls Tryz.prog 18 #[.pointer (some ⟨b, 0, none⟩), .string m] w fun e w' => e = .returned (.tuple #[.string ⟨#[]⟩, .int .i64 5]) ∧ w = w' := by
  have HL := Lib.hid (leaf_none w b seed h hh hK)
  have hnot : ∀ (x : Bool) (w : World), (Op.unary .not (.bool x)).run Tryz.prog w = .ok (.bool (!x)) w := fun _ _ => rfl
  clear hh hK
  go_enter Tryz.func18, Tryz.ntmps18
  go_wp2_with (go_at_call 36; refine HL.out.mono ?_; rintro e w' ⟨rfl, rfl⟩)
  go_ret2
  exact ⟨rfl, rfl⟩

set_option maxHeartbeats 2000000 in
set_option maxRecDepth 100000 in
theorem sign_any (w : World) (b : Nat) (seed : ByteArray) (h used : Nat) (m : ByteArray) (hh : h ≤ 4) (hu : used < 2 ^ h) (hs : seed.size ≤ 1000000) (hm : m.size ≤ 1000000) (ht : TabsK w b) (hK : KeyAt w b seed h used) :
    Calls Tryz.prog 18 #[.pointer (some ⟨b, 0, none⟩), .string m] w fun e w' => e = .returned (.tuple #[.string (sigB seed h used m), .int .i64 0]) ∧ KeyGrown w' b seed h ((used + 1 : Nat) : Int) ∧ w.grownBy w' (some b) := by
  have h16 := pow_le16 h hh
  have HTL := Lib.hid (leaf_take w b seed h used hh hu hK)
  have g0 := grownBy_set0 w b 2 (.int .i64 ((used + 1 : Nat) : Int))
  have HDO := Lib.hid (do_any _ b seed h _ hh hs (ht.on g0) (hK.take ((used + 1 : Nat) : Int)))
  have HG0 := Lib.hid g0
  have HT := Lib.hid ht
  have hk2 := numOk_yes (k := 2) (n := (used : Int)) (by omega) (by simp; omega)
  have hB2 := numB_yes hk2
  have hsh := short_any (used : Int) (by omega)
  rw [hB2, hk2, Int.toNat_natCast] at hsh
  have HSH := Lib.hid hsh
  have HMS := Lib.hid (fun W hT => msg_any m hm W hT)
  have HSG := Lib.hid (fun W hT => sign_yes W seed used (msgB m) (by omega) hs (msgB_size m) hT)
  have hpa := fun W a c h1 hT => path_yes W a c (leavesL seed h) h used hh (leavesL_length _ _) hu h1 (leaves_small _ _) hT
  rw [leavesL_length] at hpa
  have HPA := Lib.hid hpa
  have HJ1 := Lib.hid (fun W a c h1 h2 => join_any W a c (valsL seed used m) h1 (by rw [valsL_length]; omega) (valsL_32 _ _ _) h2)
  have HJ2 := Lib.hid (fun W a c h1 h2 => join_any W a c (pathL seed h used) h1 (by rw [pathL_length]; omega) (pathL_32 _ _ _ hu) h2)
  rw [valsL_length] at HJ1
  rw [pathL_length] at HJ2
  have HPL := Lib.hid (pathL_length seed h used)
  have HPE := Lib.hid (show pathL seed h used = pathTo (leavesL seed h) used h from rfl)
  have HVE := Lib.hid (show valsL seed used m = signL seed used (digL (msgB m).data.toList) from rfl)
  have HSI := Lib.hid (show sigB seed h used m = be 2 used ++ catB (valsL seed used m) ++ catB (pathL seed h used) from rfl)
  have hnot : ∀ (x : Bool) (w : World), (Op.unary .not (.bool x)).run Tryz.prog w = .ok (.bool (!x)) w := fun _ _ => rfl
  have hmf : ∀ (fn : Fn) (first cap : Array Value) (w : World), (Instr.makeFunc fn first cap).run Tryz.prog w = .ok (.func fn first cap) w := fun _ _ _ _ => rfl
  have z1 : (be 2 used).size ≤ 1000000 := by rw [be_size]; omega
  have z2 : (catB (valsL seed used m)).size ≤ 1000000 := by rw [catB_size _ (valsL_32 _ _ _), valsL_length]; omega
  have z3 : (catB (pathL seed h used)).size ≤ 1000000 := by rw [catB_size _ (pathL_32 _ _ _ hu), pathL_length]; omega
  have z12 : (be 2 used ++ catB (valsL seed used m)).size ≤ 2000000 := by rw [ByteArray.size_append]; omega
  generalize be 2 used = X1 at *
  generalize catB (valsL seed used m) = X2 at *
  generalize catB (pathL seed h used) = X3 at *
  clear hpa hsh hk2 hB2 g0 hK ht hs hm
  generalize w.setCell ⟨b, 2, none⟩ (.int .i64 ((used + 1 : Nat) : Int)) = W0 at *
  go_enter Tryz.func18, Tryz.ntmps18
  go_wp2_with (go_at_call 36; refine HTL.out.mono ?_; rintro e w1 ⟨rfl, rfl⟩)
  refine HDO.out.mono ?_
  rintro e w2 ⟨rfl, k2, g2⟩
  clear HTL HDO
  have HG2 := Lib.hid (Lib.grownBy_trans HG0.out g2)
  have HT2 := Lib.hid (HT.out.on HG2.out).now
  obtain ⟨g, hne, hB, hR⟩ := k2
  have hbl := hB.lt
  have hgl := hR.lt
  have c0 : w2.cell? ⟨b, 0, none⟩ = some (.string seed) := hB.cell 0
  have c6 : w2.cell? ⟨b, 6, none⟩ = some (.slice (some ⟨g, 0, none⟩) (2 ^ h) (2 ^ h)) := hB.cell 6
  have HK2 := Lib.hid (show KeyGrown w2 b seed h ((used + 1 : Nat) : Int) from ⟨g, hne, hB, hR⟩)
  have HR := Lib.hid (strRow_blk hR)
  clear hB hR hne g2 HG0
  go_wp2_with fail
  refine (HSH.out _).mono ?_
  rintro e w3 ⟨rfl, b3⟩
  have c03 := (b3.cell (p := ⟨b, 0, none⟩) hbl).trans c0
  have c63 := (b3.cell (p := ⟨b, 6, none⟩) hbl).trans c6
  have B3 := Lib.hid b3.drew
  have hs3 : w2.heap.size ≤ w3.heap.size := b3.size
  have HM3 := Lib.hid (HMS.out w3.drew (HT2.out.below B3.out))
  have HSG4 := Lib.hid (fun (W : World) (hb : Below w3.heap.size w3.drew W) => HSG.out W (HT2.out.below (B3.out.trans (hb.mono hs3))))
  clear c0 c6 b3 HSH HMS HSG
  have hb3 : b < w3.heap.size := Nat.lt_of_lt_of_le hbl hs3
  rw [← HVE.out] at HSG4
  go_wp2
  go_region_with (first | (go_at_call 39; refine HM3.out.mono ?_; rintro e w4 ⟨rfl, b4⟩; have c04 := (b4.cell (p := ⟨b, 0, none⟩) hb3).trans c03) | (go_at_call 38; refine (HSG4.out _ b4).mono ?_; rintro e w5 ⟨⟨gv, rfl, r5⟩, b5⟩))
  all_goals
    have hs4 : w3.heap.size ≤ w4.heap.size := b4.size
    have c65 := (b5.cell (p := ⟨b, 6, none⟩) (Nat.lt_of_lt_of_le hb3 hs4)).trans ((b4.cell (p := ⟨b, 6, none⟩) hb3).trans c63)
    have B5 := Lib.hid (B3.out.trans ((b4.mono hs3).trans (b5.mono (Nat.le_trans hs3 hs4))))
    have R5 := Lib.hid r5.1
    have HP5 := Lib.hid (HPA.out w5 _ (2 ^ h) (HR.out.below B5.out) (HT2.out.below B5.out))
    clear b4 b5 r5 c63
    go_wp2_with fail
    refine HP5.out.mono ?_
    rintro e w6 ⟨⟨v, rfl, ho⟩, b6⟩
    rw [← HPE.out] at ho
    obtain ⟨pa, pc, rfl, p6, pcap⟩ := own_strs2 ho HPL.out
    rw [HPL.out] at pcap ⊢
    have B6 := Lib.hid (B5.out.trans (b6.mono B5.out.size))
    have HJ16 := Lib.hid (HJ1.out w6 _ 67 (R5.out.below b6) (Nat.le_refl _))
    have P6 := Lib.hid p6
    clear ho b6 p6
    go_wp2_with fail
    refine HJ16.out.mono ?_
    rintro e w7 ⟨rfl, b7⟩
    have HJ27 := Lib.hid (HJ2.out w7 _ pc (P6.out.below b7) pcap)
    have B7 := Lib.hid (B6.out.trans (b7.mono B6.out.size))
    clear b7
    go_wp2_with fail
    refine HJ27.out.mono ?_
    rintro e w8 ⟨rfl, b8⟩
    have B8 := Lib.hid (B7.out.trans (b8.mono B7.out.size))
    clear b8
    go_wp2
    go_ret2
    refine ⟨by rw [HSI.out]; rfl, HK2.out.below B8.out, Lib.grownBy_below HG2.out B8.out⟩
end Go.Proofs.YtanplccigmihfaaGreatDoor
