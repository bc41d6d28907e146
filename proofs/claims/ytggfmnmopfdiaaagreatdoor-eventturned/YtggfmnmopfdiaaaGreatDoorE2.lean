/-
  Contracts of package event: layContent, Content, Encode.
-/
import Derived.Test.YtggfmnmopfdiaaaGreatDoorE1
import Derived.Test.YtggfmnmopfdiaaaGreatDoorJn
import Derived.Test.YtggfmnmopfdiaaaGreatDoorB7
namespace Go.Pal.Fr
theorem cat_size (l : List ByteArray) : (∀ i, i < l.length → (at' l i).size = 32) → (cat l).size = 32 * l.length := by
  refine snoc_ind (P := fun l => (∀ i, i < l.length → (at' l i).size = 32) → (cat l).size = 32 * l.length) (fun _ => rfl) ?_ l
  intro l x ih h
  have hx : x.size = 32 := by have := h l.length (by simp); rwa [at'_last] at this
  have hl := ih (fun i hi => by have := h i (by simp; omega); rwa [at'_snoc _ _ _ hi] at this)
  rw [cat_snoc, ByteArray.size_append, hl, hx]; simp; omega
theorem tB_size (s : ByteArray) : (tB s).size = 2 + s.size := by rw [tB, ByteArray.size_append, be_size]
end Go.Pal.Fr
namespace Go.Proofs.YtggfmnmopfdiaaaGreatDoor
open Go.RowKit Go.Pal Go.Pal.Fr Go.Pal.Ev

theorem byteOf (n : Nat) (h : n < 256) (w : World) :
    Calls Tryz.prog 76 #[.int .i64 (n : Int)] w fun e w' => e = .returned (.tuple #[.string (be 1 n), .bool true]) ∧ Below w.heap.size w w' := by
  have h1 := byte_any (n : Int) (by omega) w
  have hk : numOk 1 (n : Int) = true := numOk_yes (by omega) (by simp; omega)
  rw [numB_yes hk, hk, Int.toNat_natCast] at h1
  exact h1
theorem textOf (s : ByteArray) (h : s.size < 65536) (w : World) :
    Calls Tryz.prog 47 #[.string s] w fun e w' => e = .returned (.tuple #[.string (tB s), .bool true]) ∧ Below w.heap.size w w' := text_yes s h w

set_option maxHeartbeats 2000000 in
theorem lay_any6 (w : World) (e : E) (a : Option Addr) (c : Nat) (h : StrRow w a e.parents) (hok : evOk (noSig e) = true) (hc : e.parents.length ≤ c) :
    Calls Tryz.prog 40 #[evV e a c] w fun r w' => r = .returned (.string (evC e)) ∧ Below w.heap.size w w' := by
  obtain ⟨k, au, l, bo, sg⟩ := e
  obtain ⟨h1, h2, h3, h4, h5, _⟩ := evOk_all hok
  simp only [noSig] at h1 h2 h3 h4 h5
  simp only at h hc
  obtain ⟨k1, k5⟩ := kind_range h1
  obtain ⟨m, rfl⟩ := Int.eq_ofNat_of_zero_le (a := k) (by omega)
  have hcz := cat_size l (idsOk_at h3)
  have HJ := Lib.hid (fun W (hB : Below w.heap.size w W) => Jn.join_any W a c l (h.below hB) (by omega) (by omega) hc)
  have HK := Lib.hid (fun W => byteOf m (by omega) W)
  have HA := Lib.hid (fun W => textOf au (by omega) W)
  have HN := Lib.hid (fun W => byteOf l.length (by omega) W)
  have HB := Lib.hid (fun W => textOf bo (by omega) W)
  have hC : evC ⟨(m : Int), au, l, bo, sg⟩ = be 1 m ++ tB au ++ be 1 l.length ++ cat l ++ tB bo := rfl
  rw [hC]
  unfold evV
  have z1 := be_size 1 m
  have z2 := tB_size au
  have z3 := be_size 1 l.length
  have z5 := tB_size bo
  have hl8 : l.length ≤ 8 := h2
  clear hok h1 h3 hC k1 k5 h
  simp only
  generalize be 1 m = X1 at *
  generalize tB au = X2 at *
  generalize be 1 l.length = X3 at *
  generalize cat l = X4 at *
  generalize tB bo = X5 at *
  have y2 : X2.size = 34 := by omega
  have y4 : X4.size ≤ 256 := by omega
  have y5 : X5.size ≤ 300 := by omega
  clear z2 z5 hcz
  go_enter Tryz.func40, Tryz.ntmps40
  go_wp2_with fail
  refine (HK.out _).mono ?_
  rintro r w1 ⟨rfl, q1⟩
  have Q1 := Lib.hid q1
  obtain ⟨c0, c1, c2, c3, c4⟩ := box_cells q1
  clear q1
  go_wp2_with fail
  refine (HA.out _).mono ?_
  rintro r w2 ⟨rfl, q2⟩
  have Q2 := Lib.hid (Q1.out.trans (q2.mono Q1.out.size))
  clear c0 c1 c2 c3 c4 q2
  obtain ⟨c0, c1, c2, c3, c4⟩ := box_cells Q2.out
  go_wp2_with fail
  refine (HN.out _).mono ?_
  rintro r w3 ⟨rfl, q3⟩
  have Q3 := Lib.hid (Q2.out.trans (q3.mono Q2.out.size))
  clear c0 c1 c2 c3 c4 q3
  obtain ⟨c0, c1, c2, c3, c4⟩ := box_cells Q3.out
  go_wp2_with fail
  refine (HB.out _).mono ?_
  rintro r w4 ⟨rfl, q4⟩
  have Q4 := Lib.hid (Q3.out.trans (q4.mono Q3.out.size))
  clear c0 c1 c2 c3 c4 q4
  obtain ⟨c0, c1, c2, c3, c4⟩ := box_cells Q4.out
  have HJ4 := Lib.hid (HJ.out w4 ((alloc_below w _).trans (Q4.out.mono (alloc_below w _).size)))
  go_wp2_with fail
  refine HJ4.out.mono ?_
  rintro r w5 ⟨rfl, q5⟩
  have Q5 := Lib.hid (Q4.out.trans (q5.mono Q4.out.size))
  clear c0 c1 c2 c3 c4 q5
  go_wp2
  go_ret
  exact ⟨rfl, (alloc_below w _).trans (Q5.out.mono (alloc_below w _).size)⟩

set_option maxHeartbeats 2000000 in
theorem encode_no (w : World) (e : E) (a : Option Addr) (c : Nat) (h : StrRow w a e.parents) (hl : e.parents.length ≤ maxLen) (hs : ∀ i, (at' e.parents i).size ≤ maxLen) (hb : e.body.size ≤ maxLen) (hok : evOk e = false) :
    Calls Tryz.prog 19 #[evV e a c] w fun r w' => r = .returned (.tuple #[.string ⟨#[]⟩, .int .i64 2]) ∧ Below w.heap.size w w' := by
  have HR := Lib.hid (fun W (hB : Below w.heap.size w W) => right_any W e a c (h.below hB) hl hs hb)
  rw [hok] at HR
  clear h hl hs hb hok
  unfold evV at HR ⊢
  have HR1 := Lib.hid (HR.out _ (alloc_below w (.cells #[.int .i64 e.kind, .string e.author, .slice a e.parents.length c, .string e.body, .string e.sig] 24)))
  go_enter Tryz.func19, Tryz.ntmps19
  go_wp2_with fail
  refine HR1.out.mono ?_
  rintro r w1 ⟨rfl, q1⟩
  have B1 := Lib.hid ((alloc_below w _).trans (q1.mono (alloc_below w _).size))
  clear q1
  go_wp2
  go_ret2
  exact ⟨rfl, B1.out⟩

theorem noSig_ok {e : E} (h : evOk e = true) : evOk (noSig e) = true := by
  obtain ⟨h1, h2, h3, h4, h5, h6⟩ := evOk_all h
  simp [evOk, parOk, noSig, h1, h2, h3, h4, h5]
  rfl
theorem evC_size {e : E} (h : evOk (noSig e) = true) : (evC e).size ≤ 1000 := by
  obtain ⟨h1, h2, h3, h4, h5, h6⟩ := evOk_all h
  simp only [noSig] at h1 h2 h3 h4 h5
  have := cat_size e.parents (idsOk_at h3)
  simp only [evC, ByteArray.size_append, be_size, tB_size]
  omega

set_option maxHeartbeats 2000000 in
theorem encode_yes (w : World) (e : E) (a : Option Addr) (c : Nat) (h : StrRow w a e.parents) (hok : evOk e = true) (hc : e.parents.length ≤ c) :
    Calls Tryz.prog 19 #[evV e a c] w fun r w' => r = .returned (.tuple #[.string (evB e), .int .i64 0]) ∧ Below w.heap.size w w' := by
  obtain ⟨h1, h2, h3, h4, h5, h6⟩ := evOk_all hok
  have hs : ∀ i, (at' e.parents i).size ≤ maxLen := fun i => by
    by_cases hi : i < e.parents.length
    · rw [idsOk_at h3 i hi]; decide
    · rw [at', List.getD_eq_getElem?_getD, List.getElem?_eq_none (by omega)]; decide
  have HR := Lib.hid (fun W (hB : Below w.heap.size w W) => right_any W e a c (h.below hB) (by unfold maxLen; omega) hs (by unfold maxLen; omega))
  have HL := Lib.hid (fun W (hB : Below w.heap.size w W) => lay_any6 W e a c (h.below hB) (noSig_ok hok) hc)
  have HT := Lib.hid (fun W => textOf e.sig (by omega) W)
  have z1 := evC_size (noSig_ok hok)
  have z2 := tB_size e.sig
  have hB : evB e = evC e ++ tB e.sig := rfl
  rw [hB]
  rw [hok] at HR
  clear h hok hs h1 h3 hB
  unfold evV at HR HL ⊢
  generalize evC e = X1 at *
  generalize tB e.sig = X2 at *
  have HR1 := Lib.hid (HR.out _ (alloc_below w (.cells #[.int .i64 e.kind, .string e.author, .slice a e.parents.length c, .string e.body, .string e.sig] 24)))
  go_enter Tryz.func19, Tryz.ntmps19
  go_wp2_with fail
  refine HR1.out.mono ?_
  rintro r w1 ⟨rfl, q1⟩
  have Q1 := Lib.hid q1
  obtain ⟨c0, c1, c2, c3, c4⟩ := box_cells q1
  clear q1
  go_wp2_with fail
  refine (HT.out _).mono ?_
  rintro r w2 ⟨rfl, q2⟩
  have Q2 := Lib.hid (Q1.out.trans (q2.mono Q1.out.size))
  clear c0 c1 c2 c3 c4 q2
  obtain ⟨c0, c1, c2, c3, c4⟩ := box_cells Q2.out
  have HL2 := Lib.hid (HL.out w2 ((alloc_below w _).trans (Q2.out.mono (alloc_below w _).size)))
  go_wp2_with fail
  refine HL2.out.mono ?_
  rintro r w3 ⟨rfl, q3⟩
  have Q3 := Lib.hid (Q2.out.trans (q3.mono Q2.out.size))
  clear c0 c1 c2 c3 c4 q3
  go_wp2
  go_ret2
  exact ⟨rfl, (alloc_below w _).trans (Q3.out.mono (alloc_below w _).size)⟩

set_option maxHeartbeats 2000000 in
theorem content_no (w : World) (e : E) (a : Option Addr) (c : Nat) (h : StrRow w a e.parents) (hl : e.parents.length ≤ maxLen) (hs : ∀ i, (at' e.parents i).size ≤ maxLen) (hb : e.body.size ≤ maxLen) (hok : evOk (noSig e) = false) :
    Calls Tryz.prog 26 #[evV e a c] w fun r w' => r = .returned (.tuple #[.string ⟨#[]⟩, .int .i64 2]) ∧ Below w.heap.size w w' := by
  have HR := Lib.hid (fun W (hB : Below w.heap.size w W) => right_any W (noSig e) a c (h.below hB) hl hs hb)
  rw [hok] at HR
  clear h hl hs hb hok
  unfold evV at HR ⊢
  simp only [noSig] at HR
  have HR1 := Lib.hid (HR.out _ (alloc_below w (.cells #[.int .i64 e.kind, .string e.author, .slice a e.parents.length c, .string e.body, .string ⟨#[]⟩] 24)))
  go_enter Tryz.func26, Tryz.ntmps26
  go_wp2_with fail
  refine HR1.out.mono ?_
  rintro r w1 ⟨rfl, q1⟩
  have B1 := Lib.hid ((alloc_below w _).trans (q1.mono (alloc_below w _).size))
  clear q1
  go_wp2
  go_ret2
  exact ⟨rfl, B1.out⟩

set_option maxHeartbeats 2000000 in
theorem content_yes (w : World) (e : E) (a : Option Addr) (c : Nat) (h : StrRow w a e.parents) (hok : evOk (noSig e) = true) (hc : e.parents.length ≤ c) :
    Calls Tryz.prog 26 #[evV e a c] w fun r w' => r = .returned (.tuple #[.string (evC e), .int .i64 0]) ∧ Below w.heap.size w w' := by
  obtain ⟨h1, h2, h3, h4, h5, h6⟩ := evOk_all hok
  simp only [noSig] at h1 h2 h3 h4 h5
  have hs : ∀ i, (at' e.parents i).size ≤ maxLen := fun i => by
    by_cases hi : i < e.parents.length
    · rw [idsOk_at h3 i hi]; decide
    · rw [at', List.getD_eq_getElem?_getD, List.getElem?_eq_none (by omega)]; decide
  have HR := Lib.hid (fun W (hB : Below w.heap.size w W) => right_any W (noSig e) a c (h.below hB) (by simp only [noSig]; unfold maxLen; omega) hs (by simp only [noSig]; unfold maxLen; omega))
  have HL := Lib.hid (fun W (hB : Below w.heap.size w W) => lay_any6 W (noSig e) a c (h.below hB) hok hc)
  rw [hok] at HR
  have hE : evC e = evC (noSig e) := rfl
  rw [hE]
  clear h hok hs h1 h3 hE
  generalize evC (noSig e) = X1 at *
  unfold evV at HR HL ⊢
  simp only [noSig] at HR HL
  have HR1 := Lib.hid (HR.out _ (alloc_below w (.cells #[.int .i64 e.kind, .string e.author, .slice a e.parents.length c, .string e.body, .string ⟨#[]⟩] 24)))
  go_enter Tryz.func26, Tryz.ntmps26
  go_wp2_with fail
  refine HR1.out.mono ?_
  rintro r w1 ⟨rfl, q1⟩
  have Q1 := Lib.hid q1
  obtain ⟨c0, c1, c2, c3, c4⟩ := box_cells q1
  clear q1
  have HL2 := Lib.hid (HL.out w1 ((alloc_below w _).trans (Q1.out.mono (alloc_below w _).size)))
  go_wp2_with fail
  refine HL2.out.mono ?_
  rintro r w3 ⟨rfl, q3⟩
  have Q3 := Lib.hid (Q1.out.trans (q3.mono Q1.out.size))
  clear c0 c1 c2 c3 c4 q3
  go_wp2
  go_ret2
  exact ⟨rfl, (alloc_below w _).trans (Q3.out.mono (alloc_below w _).size)⟩
end Go.Proofs.YtggfmnmopfdiaaaGreatDoor
