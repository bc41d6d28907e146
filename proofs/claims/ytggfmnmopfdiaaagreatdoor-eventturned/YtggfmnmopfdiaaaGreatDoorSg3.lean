/-
  Signing an event with a key: what is answered, and what becomes of the key.
-/
import Derived.Test.YtggfmnmopfdiaaaGreatDoorSg2
namespace Go.Proofs.YtggfmnmopfdiaaaGreatDoor
open Go.RowKit Go.Pal Go.Pal.Fr Go.Pal.Ev
set_option linter.unusedVariables false


theorem rowGrown {w w' : World} {a : Option Addr} {l : List ByteArray} {b : Nat} (h : StrRow w a l) (hg : w.grownBy w' (some b)) (hne : ∀ x off, a = some ⟨x, off, none⟩ → l ≠ [] → x ≠ b) : StrRow w' a l := by
  rcases h with h | ⟨x, off, rfl, hx, hc⟩
  · exact .inl h
  · by_cases h0 : l = []
    · exact .inl h0
    refine .inr ⟨x, off, rfl, Nat.lt_of_lt_of_le hx hg.size, fun i hi => ?_⟩
    rw [World.cell?_of_block (a := ⟨x, off + i, none⟩) (hg.block x hx (fun e => hne x off rfl h0 (Option.some.inj e))), hc i hi]

set_option maxHeartbeats 4000000 in
set_option maxRecDepth 100000 in
theorem evsign_form (w : World) (e : E) (a : Option Addr) (c b : Nat) (seed : ByteArray) (h used : Nat) (he : Came w e a c) (hrow : ∀ W, w.grownBy W (some b) → StrRow W a e.parents) (hh : h ≤ 4) (hs : seed.size ≤ 1000000) (ht : TabsK w b) (hK : KeyAt w b seed h used) (hok : evOk (noSig (authE e (keyB seed h))) = false) :
    Calls Tryz.prog 8 #[evV e a c, .pointer (some ⟨b, 0, none⟩)] w fun r w' => r = .returned (.tuple #[evV zero none 0, .int .i64 2]) ∧ KeyGrown w' b seed h used ∧ w.grownBy w' (some b) := by
  have HCO := Lib.hid (fun W (hr : StrRow W a e.parents) => content_no W (authE e (keyB seed h)) a c hr he.len he.each he.body hok)
  unfold evV authE at HCO
  simp only [zero]
  clear hok
  have hbl := KeyAt.lt hK
  have HB0 := Lib.hid hbl
  have HS1 := Lib.hid (Sb.start (w := w) (b := b) e a c)
  have hal := (alloc_below w (.cells #[.int .i64 e.kind, .string e.author, .slice a e.parents.length c, .string e.body, .string e.sig] 24)).alloc (by simp) (.cells #[.int .i64 0, .string ⟨#[]⟩, .slice none 0 0, .string ⟨#[]⟩, .string ⟨#[]⟩] 24)
  have HP := Lib.hid (public_at _ b seed h used hh hs (ht.on HS1.out.grown) (hK.below hal))
  have HROW := Lib.hid hrow
  have HT := Lib.hid ht
  clear hal hK ht hrow
  generalize keyB seed h = A at *
  unfold evV
  go_enter Tryz.func8, Tryz.ntmps8
  go_wp2_with fail
  refine HP.out.mono ?_
  rintro r w2 ⟨rfl, k2, g2⟩
  have S2 := Lib.hid (HS1.out.key HB0.out g2)
  have K2 := Lib.hid k2
  clear k2 g2 HP HS1
  have x1 : w2.cell? ⟨w.heap.size, 1, none⟩ = some (.string e.author) := S2.out.src.cell 1
  have x0 : w2.cell? ⟨w.heap.size, 0, none⟩ = some (.int .i64 e.kind) := S2.out.src.cell 0
  have x2 : w2.cell? ⟨w.heap.size, 2, none⟩ = some (.slice a e.parents.length c) := S2.out.src.cell 2
  have x3 : w2.cell? ⟨w.heap.size, 3, none⟩ = some (.string e.body) := S2.out.src.cell 3
  have x4 : w2.cell? ⟨w.heap.size, 4, none⟩ = some (.string e.sig) := S2.out.src.cell 4
  have f1 : w2.frozen? ⟨w.heap.size, 1, none⟩ = false := S2.out.src.frozen 1
  go_wp2_with fail
  have S3 := Lib.hid (S2.out.put A)
  have K3 := Lib.hid (K2.out.box (i := 1) (v := .string A) S2.out.src)
  clear x0 x1 x2 x3 x4 f1 S2 K2
  obtain ⟨w3, hw3⟩ : ∃ W, W = w2.setCell ⟨w.heap.size, 1, none⟩ (.string A) := ⟨_, rfl⟩
  rw [← hw3] at S3 K3 ⊢
  clear hw3 w2
  have HR3 := Lib.hid (HROW.out w3 S3.out.grown)
  refine (HCO.out w3 HR3.out).mono ?_
  rintro r w4 ⟨rfl, b4⟩
  have S4 := Lib.hid (S3.out.below b4)
  have K4 := Lib.hid (K3.out.below b4)
  clear b4 S3 K3 HR3
  have y0 : w4.cell? ⟨w.heap.size + 1, 0, none⟩ = some (.int .i64 0) := S4.out.res.cell 0
  have y1 : w4.cell? ⟨w.heap.size + 1, 1, none⟩ = some (.string ⟨#[]⟩) := S4.out.res.cell 1
  have y2 : w4.cell? ⟨w.heap.size + 1, 2, none⟩ = some (.slice none 0 0) := S4.out.res.cell 2
  have y3 : w4.cell? ⟨w.heap.size + 1, 3, none⟩ = some (.string ⟨#[]⟩) := S4.out.res.cell 3
  have y4 : w4.cell? ⟨w.heap.size + 1, 4, none⟩ = some (.string ⟨#[]⟩) := S4.out.res.cell 4
  have y : ∀ i, w4.frozen? ⟨w.heap.size + 1, i, none⟩ = false := S4.out.res.frozen
  go_wp2
  obtain ⟨s0, s1, s2, s3, s4⟩ := put5T S4.out.res (.int .i64 0) (.string ⟨#[]⟩) (.slice none 0 0) (.string ⟨#[]⟩) (.string ⟨#[]⟩)
  refine bodyPost_ret (by simp [results, Tryz.results8, go_sem, s0, s1, s2, s3, s4]; try rfl) rfl ?_
  exact ⟨rfl, K4.out.box5 S4.out.res _ _ _ _ _, grown5 S4.out.grown (by omega) _ _ _ _ _⟩

set_option maxHeartbeats 4000000 in
set_option maxRecDepth 100000 in
theorem evsign_spent (w : World) (e : E) (a : Option Addr) (c b : Nat) (seed : ByteArray) (h used : Nat) (he : Came w e a c) (hrow : ∀ W, w.grownBy W (some b) → StrRow W a e.parents) (hh : h ≤ 4) (hs : seed.size ≤ 1000000) (ht : TabsK w b) (hK : KeyAt w b seed h used) (hcap : e.parents.length ≤ c) (hus : used = 2 ^ h) (hok : evOk (noSig (authE e (keyB seed h))) = true) :
    Calls Tryz.prog 8 #[evV e a c, .pointer (some ⟨b, 0, none⟩)] w fun r w' => r = .returned (.tuple #[evV zero none 0, .int .i64 5]) ∧ KeyGrown w' b seed h used ∧ w.grownBy w' (some b) := by
  have HCO := Lib.hid (fun W (hr : StrRow W a e.parents) => content_yes W (authE e (keyB seed h)) a c hr hok hcap)
  have HSG := Lib.hid (fun W m (hK : KeyGrown W b seed h used) => sign_spent W b seed h m hh (by rw [← hus]; exact .inr hK))
  unfold evV at HCO
  generalize evC (authE e (keyB seed h)) = C at *
  unfold authE at HCO
  simp only [zero]
  clear hok hus hcap
  have hbl := KeyAt.lt hK
  have HB0 := Lib.hid hbl
  have HS1 := Lib.hid (Sb.start (w := w) (b := b) e a c)
  have hal := (alloc_below w (.cells #[.int .i64 e.kind, .string e.author, .slice a e.parents.length c, .string e.body, .string e.sig] 24)).alloc (by simp) (.cells #[.int .i64 0, .string ⟨#[]⟩, .slice none 0 0, .string ⟨#[]⟩, .string ⟨#[]⟩] 24)
  have HP := Lib.hid (public_at _ b seed h used hh hs (ht.on HS1.out.grown) (hK.below hal))
  have HROW := Lib.hid hrow
  have HT := Lib.hid ht
  clear hal hK ht hrow
  generalize keyB seed h = A at *
  unfold evV
  go_enter Tryz.func8, Tryz.ntmps8
  go_wp2_with fail
  refine HP.out.mono ?_
  rintro r w2 ⟨rfl, k2, g2⟩
  have S2 := Lib.hid (HS1.out.key HB0.out g2)
  have K2 := Lib.hid k2
  clear k2 g2 HP HS1
  have x1 : w2.cell? ⟨w.heap.size, 1, none⟩ = some (.string e.author) := S2.out.src.cell 1
  have x0 : w2.cell? ⟨w.heap.size, 0, none⟩ = some (.int .i64 e.kind) := S2.out.src.cell 0
  have x2 : w2.cell? ⟨w.heap.size, 2, none⟩ = some (.slice a e.parents.length c) := S2.out.src.cell 2
  have x3 : w2.cell? ⟨w.heap.size, 3, none⟩ = some (.string e.body) := S2.out.src.cell 3
  have x4 : w2.cell? ⟨w.heap.size, 4, none⟩ = some (.string e.sig) := S2.out.src.cell 4
  have f1 : w2.frozen? ⟨w.heap.size, 1, none⟩ = false := S2.out.src.frozen 1
  go_wp2_with fail
  have S3 := Lib.hid (S2.out.put A)
  have K3 := Lib.hid (K2.out.box (i := 1) (v := .string A) S2.out.src)
  clear x0 x1 x2 x3 x4 f1 S2 K2
  obtain ⟨w3, hw3⟩ : ∃ W, W = w2.setCell ⟨w.heap.size, 1, none⟩ (.string A) := ⟨_, rfl⟩
  rw [← hw3] at S3 K3 ⊢
  clear hw3 w2
  have HR3 := Lib.hid (HROW.out w3 S3.out.grown)
  refine (HCO.out w3 HR3.out).mono ?_
  rintro r w4 ⟨rfl, b4⟩
  have S4 := Lib.hid (S3.out.below b4)
  have K4 := Lib.hid (K3.out.below b4)
  have HS4 := Lib.hid (HSG.out w4 C K4.out)
  clear b4 S3 K3 HR3 HSG
  have y0 : w4.cell? ⟨w.heap.size + 1, 0, none⟩ = some (.int .i64 0) := S4.out.res.cell 0
  have y1 : w4.cell? ⟨w.heap.size + 1, 1, none⟩ = some (.string ⟨#[]⟩) := S4.out.res.cell 1
  have y2 : w4.cell? ⟨w.heap.size + 1, 2, none⟩ = some (.slice none 0 0) := S4.out.res.cell 2
  have y3 : w4.cell? ⟨w.heap.size + 1, 3, none⟩ = some (.string ⟨#[]⟩) := S4.out.res.cell 3
  have y4 : w4.cell? ⟨w.heap.size + 1, 4, none⟩ = some (.string ⟨#[]⟩) := S4.out.res.cell 4
  have y : ∀ i, w4.frozen? ⟨w.heap.size + 1, i, none⟩ = false := S4.out.res.frozen
  go_wp2_with fail
  refine HS4.out.mono ?_
  rintro r w5 ⟨rfl, e5⟩
  rw [← e5]
  clear e5 w5
  go_wp2
  obtain ⟨s0, s1, s2, s3, s4⟩ := put5T S4.out.res (.int .i64 0) (.string ⟨#[]⟩) (.slice none 0 0) (.string ⟨#[]⟩) (.string ⟨#[]⟩)
  refine bodyPost_ret (by simp [results, Tryz.results8, go_sem, s0, s1, s2, s3, s4]; try rfl) rfl ?_
  exact ⟨rfl, K4.out.box5 S4.out.res _ _ _ _ _, grown5 S4.out.grown (by omega) _ _ _ _ _⟩

set_option maxHeartbeats 4000000 in
set_option maxRecDepth 100000 in
theorem evsign_ok (w : World) (e : E) (a : Option Addr) (c b : Nat) (seed : ByteArray) (h used : Nat) (he : Came w e a c) (hrow : ∀ W, w.grownBy W (some b) → StrRow W a e.parents) (hh : h ≤ 4) (hs : seed.size ≤ 1000000) (ht : TabsK w b) (hK : KeyAt w b seed h used) (hu : used < 2 ^ h) (hok : evOk (noSig (authE e (keyB seed h))) = true) :
    Calls Tryz.prog 8 #[evV e a c, .pointer (some ⟨b, 0, none⟩)] w fun r w' => (∃ a' c', r = .returned (.tuple #[evV { authE e (keyB seed h) with sig := sigB seed h used (evC (authE e (keyB seed h))) } a' c', .int .i64 0]) ∧ StrRow w' a' e.parents ∧ e.parents.length ≤ c' ∧ (∀ x off, a' = some ⟨x, off, none⟩ → w.heap.size + 1 < x ∧ w'.frozen? ⟨x, off, none⟩ = false)) ∧ KeyGrown w' b seed h ((used + 1 : Nat) : Int) ∧ w.grownBy w' (some b) := by
  have hall := evOk_all hok
  have hC := evC_size hok
  have HCO := Lib.hid (fun W (hr : StrRow W a e.parents) => content_yes W (authE e (keyB seed h)) a c hr hok he.cap)
  have HSG := Lib.hid (fun W (hT : TabsK W b) (hK : KeyGrown W b seed h used) => sign_any W b seed h used (evC (authE e (keyB seed h))) hh hu hs (by omega) hT (.inr hK))
  have hpl : ∀ i, (at' e.parents i).size ≤ 281474976710656 := fun i => by
    by_cases hi : i < e.parents.length
    · have := idsOk_at hall.2.2.1 i hi
      simp only [noSig, authE] at this
      omega
    · have : at' e.parents i = ByteArray.empty := by unfold at'; rw [List.getD_eq_getElem?_getD, List.getElem?_eq_none (by omega)]; rfl
      rw [this]; decide
  have HSD := Lib.hid (fun W s (hr : StrRow W a e.parents) => signed_any W (authE e (keyB seed h)) a c s ⟨hr, he.len, he.cap, he.each, he.body, by show (keyB seed h).size ≤ maxLen; have := hall.2.2.2.1; unfold maxLen; simp only [noSig, authE] at this; omega, he.sig⟩ hall.2.1 (by have := hall.2.2.2.2.1; simp only [noSig, authE] at this; show e.body.size ≤ _; omega) hpl)
  unfold evV at HCO HSD
  generalize evC (authE e (keyB seed h)) = C at *
  generalize hSIG : sigB seed h used C = SIG at *
  unfold authE at HCO HSD ⊢
  simp only [] at HCO HSD
  clear hok hu hC hall hpl hSIG
  have hbl := KeyAt.lt hK
  have HB0 := Lib.hid hbl
  have HS1 := Lib.hid (Sb.start (w := w) (b := b) e a c)
  have hal := (alloc_below w (.cells #[.int .i64 e.kind, .string e.author, .slice a e.parents.length c, .string e.body, .string e.sig] 24)).alloc (by simp) (.cells #[.int .i64 0, .string ⟨#[]⟩, .slice none 0 0, .string ⟨#[]⟩, .string ⟨#[]⟩] 24)
  have HP := Lib.hid (public_at _ b seed h used hh hs (ht.on HS1.out.grown) (hK.below hal))
  have HROW := Lib.hid hrow
  have HT := Lib.hid ht
  clear hal hK ht hrow
  generalize keyB seed h = A at *
  unfold evV
  go_enter Tryz.func8, Tryz.ntmps8
  go_wp2_with fail
  refine HP.out.mono ?_
  rintro r w2 ⟨rfl, k2, g2⟩
  have S2 := Lib.hid (HS1.out.key HB0.out g2)
  have K2 := Lib.hid k2
  clear k2 g2 HP HS1
  have x1 : w2.cell? ⟨w.heap.size, 1, none⟩ = some (.string e.author) := S2.out.src.cell 1
  have x0 : w2.cell? ⟨w.heap.size, 0, none⟩ = some (.int .i64 e.kind) := S2.out.src.cell 0
  have x2 : w2.cell? ⟨w.heap.size, 2, none⟩ = some (.slice a e.parents.length c) := S2.out.src.cell 2
  have x3 : w2.cell? ⟨w.heap.size, 3, none⟩ = some (.string e.body) := S2.out.src.cell 3
  have x4 : w2.cell? ⟨w.heap.size, 4, none⟩ = some (.string e.sig) := S2.out.src.cell 4
  have f1 : w2.frozen? ⟨w.heap.size, 1, none⟩ = false := S2.out.src.frozen 1
  go_wp2_with fail
  have S3 := Lib.hid (S2.out.put A)
  have K3 := Lib.hid (K2.out.box (i := 1) (v := .string A) S2.out.src)
  clear x0 x1 x2 x3 x4 f1 S2 K2
  obtain ⟨w3, hw3⟩ : ∃ W, W = w2.setCell ⟨w.heap.size, 1, none⟩ (.string A) := ⟨_, rfl⟩
  rw [← hw3] at S3 K3 ⊢
  clear hw3 w2
  have HR3 := Lib.hid (HROW.out w3 S3.out.grown)
  refine (HCO.out w3 HR3.out).mono ?_
  rintro r w4 ⟨rfl, b4⟩
  have S4 := Lib.hid (S3.out.below b4)
  have K4 := Lib.hid (K3.out.below b4)
  have HS4 := Lib.hid (HSG.out w4 (HT.out.on S4.out.grown) K4.out)
  clear b4 S3 K3 HR3 HSG K4
  go_wp2_with fail
  refine HS4.out.mono ?_
  rintro r w5 ⟨rfl, k5, g5⟩
  have S5 := Lib.hid (S4.out.key HB0.out g5)
  have K5 := Lib.hid k5
  have HR5 := Lib.hid (HROW.out w5 S5.out.grown)
  clear k5 g5 S4 HS4
  have x0 : w5.cell? ⟨w.heap.size, 0, none⟩ = some (.int .i64 e.kind) := S5.out.src.cell 0
  have x1 : w5.cell? ⟨w.heap.size, 1, none⟩ = some (.string A) := S5.out.src.cell 1
  have x2 : w5.cell? ⟨w.heap.size, 2, none⟩ = some (.slice a e.parents.length c) := S5.out.src.cell 2
  have x3 : w5.cell? ⟨w.heap.size, 3, none⟩ = some (.string e.body) := S5.out.src.cell 3
  have x4 : w5.cell? ⟨w.heap.size, 4, none⟩ = some (.string e.sig) := S5.out.src.cell 4
  go_wp2_with fail
  refine (HSD.out w5 SIG HR5.out).mono ?_
  rintro r w6 ⟨⟨a6, c6, rfl, r6, hc6, hf6⟩, b6⟩
  have S6 := Lib.hid (S5.out.below b6)
  have K6 := Lib.hid (K5.out.below b6)
  have hz5 := S5.out.res.lt
  have HF6 := Lib.hid (fun x off hx => (⟨Nat.lt_of_lt_of_le hz5 (hf6 x off hx).1, (hf6 x off hx).2⟩ : w.heap.size + 1 < x ∧ w6.frozen? ⟨x, off, none⟩ = false))
  have R6 := Lib.hid r6
  have HC6 := Lib.hid hc6
  clear b6 S5 K5 HR5 hf6 r6 hc6 hz5 x0 x1 x2 x3 x4 HSD
  have y0 : w6.cell? ⟨w.heap.size + 1, 0, none⟩ = some (.int .i64 0) := S6.out.res.cell 0
  have y1 : w6.cell? ⟨w.heap.size + 1, 1, none⟩ = some (.string ⟨#[]⟩) := S6.out.res.cell 1
  have y2 : w6.cell? ⟨w.heap.size + 1, 2, none⟩ = some (.slice none 0 0) := S6.out.res.cell 2
  have y3 : w6.cell? ⟨w.heap.size + 1, 3, none⟩ = some (.string ⟨#[]⟩) := S6.out.res.cell 3
  have y4 : w6.cell? ⟨w.heap.size + 1, 4, none⟩ = some (.string ⟨#[]⟩) := S6.out.res.cell 4
  have y : ∀ i, w6.frozen? ⟨w.heap.size + 1, i, none⟩ = false := S6.out.res.frozen
  go_wp2
  obtain ⟨s0, s1, s2, s3, s4⟩ := put5T S6.out.res (.int .i64 e.kind) (.string A) (.slice a6 e.parents.length c6) (.string e.body) (.string SIG)
  refine bodyPost_ret (by simp [results, Tryz.results8, go_sem, s0, s1, s2, s3, s4]; try rfl) rfl ?_
  exact ⟨⟨_, _, rfl, strRow5 R6.out (fun x off hx => by have := (HF6.out x off hx).1; omega) _ _ _ _ _, HC6.out, fun x off hx => ⟨(HF6.out x off hx).1, by simp [(HF6.out x off hx).2]⟩⟩, K6.out.box5 S6.out.res _ _ _ _ _, grown5 S6.out.grown (by omega) _ _ _ _ _⟩
end Go.Proofs.YtggfmnmopfdiaaaGreatDoor
