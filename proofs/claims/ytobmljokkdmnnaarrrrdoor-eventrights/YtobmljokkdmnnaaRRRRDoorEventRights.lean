/-
  P6.1: whether any event is right; its content, and its bytes, or that it has none: for every event.
  The tables of the program start as its text lays them (the card ties them).
-/
import Derived.Test.YtobmljokkdmnnaaRRRRDoorLaid
import Derived.Test.YtobmljokkdmnnaaRRRRDoorE3
import Derived.Test.YtobmljokkdmnnaaRRRRDoorE4
import Derived.Test.YtobmljokkdmnnaaRRRRDoorE5
import Derived.Test.YtobmljokkdmnnaaRRRRDoorE6
import Derived.Test.YtobmljokkdmnnaaRRRRDoorEOpen
import Derived.Deep.RegionHeld3
import Derived.ProofKit
import Derived.OpenShut
import Derived.ShutString
import Derived.ChangeOld
import Derived.SevenTiedAt
import Derived.SliceStrings
namespace Go.Proofs.YtobmljokkdmnnaaRRRRDoor.EventRights
open Go.ChangeShapes Go.WideShapes Go.ChangeAt Go.RowKit Go.Pal Go.Pal.Fr Go.Pal.Ev
open Go.ChangeMaps (open_string shut_string)
set_option linter.unusedVariables false

theorem below_box {w w1 : World} {o : Obj} (q : Below (w.alloc o).heap.size (w.alloc o) w1) : Below w.heap.size w w1 := (alloc_below w o).trans (q.mono (alloc_below w o).size)

set_option maxHeartbeats 4000000 in
set_option maxRecDepth 100000 in
theorem walkTT (e : E) (a : Option Addr) (c : Nat) (w : World) (he : Came w e a c) (ht : Tabs w) (hX : evOk e = true) (hY : evOk (noSig e) = true) :
    Calls Tryd.prog 3 #[evV e a c] w fun r w' => r = .returned (.bool true) ∧ Below w.heap.size w w' := by
  have HG := Lib.hid (fun W (hb : Below w.heap.size w W) => great_any W e a c (he.row.below hb) he.len he.each)
  have HAW := Lib.hid (fun (W : World) (hb : Below w.heap.size w W) => awake6 W (ht.below hb))
  have HEN := Lib.hid (fun W (hb : Below w.heap.size w W) => encode_yes W e a c (he.row.below hb) hX he.cap)
  have HCO := Lib.hid (fun W (hb : Below w.heap.size w W) => content_yes W e a c (he.row.below hb) hY he.cap)
  have HPR := Lib.hid (fun W (hb : Below w.heap.size w W) => right_any W e a c (he.row.below hb) he.len he.each he.body)
  have HRR := Lib.hid (fun W (s : ByteArray) (hb : Below w.heap.size w W) => refright_any W { e with sig := s } a c (he.row.below hb) he.len he.each he.body)
  obtain ⟨okS, hS⟩ : ∃ f : ByteArray → Bool, f = fun s => evOk { e with sig := s } := ⟨_, rfl⟩
  have s1 : okS e.sig = true := by rw [hS]; exact hX
  have s2 : okS ⟨#[]⟩ = true := by rw [hS]; exact hY
  have HOK := Lib.hid (fun s => show evOk { e with sig := s } = okS s by rw [hS])
  clear hS
  have HRE := Lib.hid (fun W (hb : Below w.heap.size w W) => refencode_any W e a c (he.row.below hb) hX)
  have HRC := Lib.hid (fun W (hb : Below w.heap.size w W) => refcontent_any W (noSig e) a c (he.row.below hb) hY)
  have hEC : evC (noSig e) = evC e := rfl
  rw [hEC] at HRC
  clear hEC
  rw [hX] at HPR
  clear he ht hX hY
  unfold evV at HG HEN HCO HPR HRR HRE HRC ⊢
  simp only [noSig] at HRC
  generalize evB e = EB at *
  generalize evC e = EC at *
  have HG1 := Lib.hid (HG.out _ (alloc_below w (.cells #[.int .i64 e.kind, .string e.author, .slice a e.parents.length c, .string e.body, .string e.sig] 24)))
  go_enter Tryd.func3, Tryd.ntmps3
  go_wp2_with fail
  refine HG1.out.mono ?_
  rintro r w1 ⟨⟨b, rfl⟩, q1⟩
  have Q1 := Lib.hid q1
  have B1 := Lib.hid (below_box q1)
  obtain ⟨c0, c1, c2, c3, c4⟩ := box_cells q1
  clear q1 HG HG1
  cases b
  case true =>
    have HA1 := Lib.hid (HAW.out w1 B1.out)
    clear c0 c1 c2 c3 c4
    go_wp2_with fail
    refine HA1.out.mono ?_
    rintro r w2 ⟨rfl, q2⟩
    have B2 := Lib.hid (B1.out.trans (q2.mono B1.out.size))
    clear q2
    go_wp2
    go_ret
    exact ⟨rfl, B2.out⟩
  have HE1 := Lib.hid (HEN.out w1 B1.out)
  go_wp2_with fail
  refine HE1.out.mono ?_
  rintro r w2 ⟨rfl, q2⟩
  have Q2 := Lib.hid (Q1.out.trans (q2.mono Q1.out.size))
  have B2 := Lib.hid (below_box Q2.out)
  clear q2 c0 c1 c2 c3 c4 HE1 HEN
  obtain ⟨c0, c1, c2, c3, c4⟩ := box_cells Q2.out
  have HC2 := Lib.hid (HCO.out w2 B2.out)
  go_wp2_with fail
  refine HC2.out.mono ?_
  rintro r w3 ⟨rfl, q3⟩
  have Q3 := Lib.hid (Q2.out.trans (q3.mono Q2.out.size))
  clear q3 c0 c1 c2 c3 c4 HC2 HCO
  obtain ⟨c0, c1, c2, c3, c4⟩ := box_cells Q3.out
  have HLT : Hid (w.heap.size < w3.heap.size) := Lib.hid (Nat.lt_of_lt_of_le (by simp) Q3.out.size)
  have B3 := Lib.hid (below_box Q3.out)
  have CC : Hid (∀ w', Below (w3.alloc (.cells #[.int .i64 e.kind, .string e.author, .slice a e.parents.length c, .string e.body, .string ⟨#[]⟩] 24)).heap.size (w3.alloc (.cells #[.int .i64 e.kind, .string e.author, .slice a e.parents.length c, .string e.body, .string ⟨#[]⟩] 24)) w' → w'.cell? ⟨w.heap.size, 0, none⟩ = some (.int .i64 e.kind) ∧ w'.cell? ⟨w.heap.size, 1, none⟩ = some (.string e.author) ∧ w'.cell? ⟨w.heap.size, 2, none⟩ = some (.slice a e.parents.length c) ∧ w'.cell? ⟨w.heap.size, 3, none⟩ = some (.string e.body) ∧ w'.cell? ⟨w.heap.size, 4, none⟩ = some (.string e.sig) ∧ w'.cell? ⟨w3.heap.size, 0, none⟩ = some (.int .i64 e.kind) ∧ w'.cell? ⟨w3.heap.size, 1, none⟩ = some (.string e.author) ∧ w'.cell? ⟨w3.heap.size, 2, none⟩ = some (.slice a e.parents.length c) ∧ w'.cell? ⟨w3.heap.size, 3, none⟩ = some (.string e.body) ∧ w'.cell? ⟨w3.heap.size, 4, none⟩ = some (.string ⟨#[]⟩) ∧ Below (w3.alloc (.cells #[.int .i64 e.kind, .string e.author, .slice a e.parents.length c, .string e.body, .string ⟨#[]⟩] 24)).heap.size (w3.alloc (.cells #[.int .i64 e.kind, .string e.author, .slice a e.parents.length c, .string e.body, .string ⟨#[]⟩] 24)) w') := Lib.hid (fun w' q => by
    have q3 := (alloc_below w3 (.cells #[.int .i64 e.kind, .string e.author, .slice a e.parents.length c, .string e.body, .string ⟨#[]⟩] 24)).trans (q.mono (alloc_below w3 _).size)
    obtain ⟨a0, a1, a2, a3, a4⟩ := box_cells (Q3.out.trans (q3.mono Q3.out.size))
    obtain ⟨d0, d1, d2, d3, d4⟩ := box_cells q
    exact ⟨a0, a1, a2, a3, a4, d0, d1, d2, d3, d4, q⟩)
  have HB5 : Hid (∀ w', Below (w3.alloc (.cells #[.int .i64 e.kind, .string e.author, .slice a e.parents.length c, .string e.body, .string ⟨#[]⟩] 24)).heap.size (w3.alloc (.cells #[.int .i64 e.kind, .string e.author, .slice a e.parents.length c, .string e.body, .string ⟨#[]⟩] 24)) w' → Below w.heap.size w w') := Lib.hid (fun w' q => B3.out.trans ((below_box q).mono B3.out.size))
  have HP5 := Lib.hid (fun (Wq : World) (hq : Below (w3.alloc (.cells #[.int .i64 e.kind, .string e.author, .slice a e.parents.length c, .string e.body, .string ⟨#[]⟩] 24)).heap.size (w3.alloc (.cells #[.int .i64 e.kind, .string e.author, .slice a e.parents.length c, .string e.body, .string ⟨#[]⟩] 24)) Wq) => (HPR.out Wq (HB5.out Wq hq)).mono (fun r w' (h : r = .returned (.bool true) ∧ Below Wq.heap.size Wq w') => (show r = .returned (.bool true) ∧ Below (w3.alloc (.cells #[.int .i64 e.kind, .string e.author, .slice a e.parents.length c, .string e.body, .string ⟨#[]⟩] 24)).heap.size (w3.alloc (.cells #[.int .i64 e.kind, .string e.author, .slice a e.parents.length c, .string e.body, .string ⟨#[]⟩] 24)) w' from ⟨h.1, hq.trans (h.2.mono hq.size)⟩)))
  have HR5 := Lib.hid (fun (s : ByteArray) (Wq : World) (hq : Below (w3.alloc (.cells #[.int .i64 e.kind, .string e.author, .slice a e.parents.length c, .string e.body, .string ⟨#[]⟩] 24)).heap.size (w3.alloc (.cells #[.int .i64 e.kind, .string e.author, .slice a e.parents.length c, .string e.body, .string ⟨#[]⟩] 24)) Wq) => (HRR.out Wq s (HB5.out Wq hq)).mono (fun r w' (h : r = .returned (.bool (evOk { e with sig := s })) ∧ Below Wq.heap.size Wq w') => (show r = .returned (.bool (okS s)) ∧ Below (w3.alloc (.cells #[.int .i64 e.kind, .string e.author, .slice a e.parents.length c, .string e.body, .string ⟨#[]⟩] 24)).heap.size (w3.alloc (.cells #[.int .i64 e.kind, .string e.author, .slice a e.parents.length c, .string e.body, .string ⟨#[]⟩] 24)) w' from ⟨by rw [h.1, HOK.out], hq.trans (h.2.mono hq.size)⟩)))
  have bdr : Below (w3.alloc (.cells #[.int .i64 e.kind, .string e.author, .slice a e.parents.length c, .string e.body, .string ⟨#[]⟩] 24)).heap.size (w3.alloc (.cells #[.int .i64 e.kind, .string e.author, .slice a e.parents.length c, .string e.body, .string ⟨#[]⟩] 24)) (w3.alloc (.cells #[.int .i64 e.kind, .string e.author, .slice a e.parents.length c, .string e.body, .string ⟨#[]⟩] 24)).drew := (Below.refl _ _).drew
  clear HPR HRR
  go_wp2
  clear c0 c1 c2 c3 c4
  go_region_held3 (fun w' => w'.cell? ⟨w.heap.size, 0, none⟩ = some (.int .i64 e.kind) ∧ w'.cell? ⟨w.heap.size, 1, none⟩ = some (.string e.author) ∧ w'.cell? ⟨w.heap.size, 2, none⟩ = some (.slice a e.parents.length c) ∧ w'.cell? ⟨w.heap.size, 3, none⟩ = some (.string e.body) ∧ w'.cell? ⟨w.heap.size, 4, none⟩ = some (.string e.sig) ∧ w'.cell? ⟨w3.heap.size, 0, none⟩ = some (.int .i64 e.kind) ∧ w'.cell? ⟨w3.heap.size, 1, none⟩ = some (.string e.author) ∧ w'.cell? ⟨w3.heap.size, 2, none⟩ = some (.slice a e.parents.length c) ∧ w'.cell? ⟨w3.heap.size, 3, none⟩ = some (.string e.body) ∧ w'.cell? ⟨w3.heap.size, 4, none⟩ = some (.string ⟨#[]⟩) ∧ Below (w3.alloc (.cells #[.int .i64 e.kind, .string e.author, .slice a e.parents.length c, .string e.body, .string ⟨#[]⟩] 24)).heap.size (w3.alloc (.cells #[.int .i64 e.kind, .string e.author, .slice a e.parents.length c, .string e.body, .string ⟨#[]⟩] 24)) w')
    (first | exact CC.out _ b7 | exact (CC.out _ b7).1 | exact (CC.out _ b7).2.1 | exact (CC.out _ b7).2.2.1 | exact (CC.out _ b7).2.2.2.1 | exact (CC.out _ b7).2.2.2.2.1 | exact (CC.out _ b7).2.2.2.2.2.1 | exact (CC.out _ b7).2.2.2.2.2.2.1 | exact (CC.out _ b7).2.2.2.2.2.2.2.1 | exact (CC.out _ b7).2.2.2.2.2.2.2.2.1 | exact (CC.out _ b7).2.2.2.2.2.2.2.2.2.1 | exact (CC.out _ b7).2.2.2.2.2.2.2.2.2.2 | exact CC.out _ bdr | exact (CC.out _ bdr).1 | exact (CC.out _ bdr).2.1 | exact (CC.out _ bdr).2.2.1 | exact (CC.out _ bdr).2.2.2.1 | exact (CC.out _ bdr).2.2.2.2.1 | exact (CC.out _ bdr).2.2.2.2.2.1 | exact (CC.out _ bdr).2.2.2.2.2.2.1 | exact (CC.out _ bdr).2.2.2.2.2.2.2.1 | exact (CC.out _ bdr).2.2.2.2.2.2.2.2.1 | exact (CC.out _ bdr).2.2.2.2.2.2.2.2.2.1 | exact (CC.out _ bdr).2.2.2.2.2.2.2.2.2.2 | go_keep)
    (first | (go_at_call 13; refine (HP5.out _ (by first | exact b7 | exact bdr)).mono ?_; rintro r w7 ⟨rfl, b7⟩) | (go_at_call 14; refine (HR5.out _ _ (by first | exact b7 | exact bdr)).mono ?_; rintro r w7 ⟨rfl, b7⟩))
  have Q7 := Lib.hid b7
  have B7 := Lib.hid (HB5.out w7 b7)
  clear b7 bdr HP5 HR5
  obtain ⟨c0, c1, c2, c3, c4, d0, d1, d2, d3, d4, _⟩ := CC.out w7 Q7.out
  have HE7 := Lib.hid (HRE.out w7 B7.out)
  go_wp2_with fail
  refine HE7.out.mono ?_
  rintro r w8 ⟨rfl, q8⟩
  have Q8 := Lib.hid (Q7.out.trans (q8.mono Q7.out.size))
  have B8 := Lib.hid (HB5.out w8 Q8.out)
  clear q8 c0 c1 c2 c3 c4 d0 d1 d2 d3 d4
  obtain ⟨c0, c1, c2, c3, c4, d0, d1, d2, d3, d4, _⟩ := CC.out w8 Q8.out
  have HC8 := Lib.hid (HRC.out w8 B8.out)
  go_wp2_with fail
  refine HC8.out.mono ?_
  rintro r w9 ⟨rfl, q9⟩
  have B9 := Lib.hid (B8.out.trans (q9.mono B8.out.size))
  clear q9 c0 c1 c2 c3 c4 d0 d1 d2 d3 d4
  have HA9 := Lib.hid (HAW.out w9 B9.out)
  go_wp2_with fail
  refine HA9.out.mono ?_
  rintro r wa ⟨rfl, qa⟩
  have BA := Lib.hid (B9.out.trans (qa.mono B9.out.size))
  clear qa
  go_wp2
  go_ret
  exact ⟨rfl, BA.out⟩

set_option maxHeartbeats 4000000 in
set_option maxRecDepth 100000 in
theorem walkFT (e : E) (a : Option Addr) (c : Nat) (w : World) (he : Came w e a c) (ht : Tabs w) (hX : evOk e = false) (hY : evOk (noSig e) = true) :
    Calls Tryd.prog 3 #[evV e a c] w fun r w' => r = .returned (.bool true) ∧ Below w.heap.size w w' := by
  have HG := Lib.hid (fun W (hb : Below w.heap.size w W) => great_any W e a c (he.row.below hb) he.len he.each)
  have HAW := Lib.hid (fun (W : World) (hb : Below w.heap.size w W) => awake6 W (ht.below hb))
  have HEN := Lib.hid (fun W (hb : Below w.heap.size w W) => encode_no W e a c (he.row.below hb) he.len he.each he.body hX)
  have HCO := Lib.hid (fun W (hb : Below w.heap.size w W) => content_yes W e a c (he.row.below hb) hY he.cap)
  have HPR := Lib.hid (fun W (hb : Below w.heap.size w W) => right_any W e a c (he.row.below hb) he.len he.each he.body)
  have HRR := Lib.hid (fun W (s : ByteArray) (hb : Below w.heap.size w W) => refright_any W { e with sig := s } a c (he.row.below hb) he.len he.each he.body)
  obtain ⟨okS, hS⟩ : ∃ f : ByteArray → Bool, f = fun s => evOk { e with sig := s } := ⟨_, rfl⟩
  have s1 : okS e.sig = false := by rw [hS]; exact hX
  have s2 : okS ⟨#[]⟩ = true := by rw [hS]; exact hY
  have HOK := Lib.hid (fun s => show evOk { e with sig := s } = okS s by rw [hS])
  clear hS
  have HRC := Lib.hid (fun W (hb : Below w.heap.size w W) => refcontent_any W (noSig e) a c (he.row.below hb) hY)
  have hEC : evC (noSig e) = evC e := rfl
  rw [hEC] at HRC
  clear hEC
  rw [hX] at HPR
  clear he ht hX hY
  unfold evV at HG HEN HCO HPR HRR HRC ⊢
  simp only [noSig] at HRC
  generalize evC e = EC at *
  have HG1 := Lib.hid (HG.out _ (alloc_below w (.cells #[.int .i64 e.kind, .string e.author, .slice a e.parents.length c, .string e.body, .string e.sig] 24)))
  go_enter Tryd.func3, Tryd.ntmps3
  go_wp2_with fail
  refine HG1.out.mono ?_
  rintro r w1 ⟨⟨b, rfl⟩, q1⟩
  have Q1 := Lib.hid q1
  have B1 := Lib.hid (below_box q1)
  obtain ⟨c0, c1, c2, c3, c4⟩ := box_cells q1
  clear q1 HG HG1
  cases b
  case true =>
    have HA1 := Lib.hid (HAW.out w1 B1.out)
    clear c0 c1 c2 c3 c4
    go_wp2_with fail
    refine HA1.out.mono ?_
    rintro r w2 ⟨rfl, q2⟩
    have B2 := Lib.hid (B1.out.trans (q2.mono B1.out.size))
    clear q2
    go_wp2
    go_ret
    exact ⟨rfl, B2.out⟩
  have HE1 := Lib.hid (HEN.out w1 B1.out)
  go_wp2_with fail
  refine HE1.out.mono ?_
  rintro r w2 ⟨rfl, q2⟩
  have Q2 := Lib.hid (Q1.out.trans (q2.mono Q1.out.size))
  have B2 := Lib.hid (below_box Q2.out)
  clear q2 c0 c1 c2 c3 c4 HE1 HEN
  obtain ⟨c0, c1, c2, c3, c4⟩ := box_cells Q2.out
  have HC2 := Lib.hid (HCO.out w2 B2.out)
  go_wp2_with fail
  refine HC2.out.mono ?_
  rintro r w3 ⟨rfl, q3⟩
  have Q3 := Lib.hid (Q2.out.trans (q3.mono Q2.out.size))
  clear q3 c0 c1 c2 c3 c4 HC2 HCO
  obtain ⟨c0, c1, c2, c3, c4⟩ := box_cells Q3.out
  have HLT : Hid (w.heap.size < w3.heap.size) := Lib.hid (Nat.lt_of_lt_of_le (by simp) Q3.out.size)
  have B3 := Lib.hid (below_box Q3.out)
  have CC : Hid (∀ w', Below (w3.alloc (.cells #[.int .i64 e.kind, .string e.author, .slice a e.parents.length c, .string e.body, .string ⟨#[]⟩] 24)).heap.size (w3.alloc (.cells #[.int .i64 e.kind, .string e.author, .slice a e.parents.length c, .string e.body, .string ⟨#[]⟩] 24)) w' → w'.cell? ⟨w.heap.size, 0, none⟩ = some (.int .i64 e.kind) ∧ w'.cell? ⟨w.heap.size, 1, none⟩ = some (.string e.author) ∧ w'.cell? ⟨w.heap.size, 2, none⟩ = some (.slice a e.parents.length c) ∧ w'.cell? ⟨w.heap.size, 3, none⟩ = some (.string e.body) ∧ w'.cell? ⟨w.heap.size, 4, none⟩ = some (.string e.sig) ∧ w'.cell? ⟨w3.heap.size, 0, none⟩ = some (.int .i64 e.kind) ∧ w'.cell? ⟨w3.heap.size, 1, none⟩ = some (.string e.author) ∧ w'.cell? ⟨w3.heap.size, 2, none⟩ = some (.slice a e.parents.length c) ∧ w'.cell? ⟨w3.heap.size, 3, none⟩ = some (.string e.body) ∧ w'.cell? ⟨w3.heap.size, 4, none⟩ = some (.string ⟨#[]⟩) ∧ Below (w3.alloc (.cells #[.int .i64 e.kind, .string e.author, .slice a e.parents.length c, .string e.body, .string ⟨#[]⟩] 24)).heap.size (w3.alloc (.cells #[.int .i64 e.kind, .string e.author, .slice a e.parents.length c, .string e.body, .string ⟨#[]⟩] 24)) w') := Lib.hid (fun w' q => by
    have q3 := (alloc_below w3 (.cells #[.int .i64 e.kind, .string e.author, .slice a e.parents.length c, .string e.body, .string ⟨#[]⟩] 24)).trans (q.mono (alloc_below w3 _).size)
    obtain ⟨a0, a1, a2, a3, a4⟩ := box_cells (Q3.out.trans (q3.mono Q3.out.size))
    obtain ⟨d0, d1, d2, d3, d4⟩ := box_cells q
    exact ⟨a0, a1, a2, a3, a4, d0, d1, d2, d3, d4, q⟩)
  have HB5 : Hid (∀ w', Below (w3.alloc (.cells #[.int .i64 e.kind, .string e.author, .slice a e.parents.length c, .string e.body, .string ⟨#[]⟩] 24)).heap.size (w3.alloc (.cells #[.int .i64 e.kind, .string e.author, .slice a e.parents.length c, .string e.body, .string ⟨#[]⟩] 24)) w' → Below w.heap.size w w') := Lib.hid (fun w' q => B3.out.trans ((below_box q).mono B3.out.size))
  have HP5 := Lib.hid (fun (Wq : World) (hq : Below (w3.alloc (.cells #[.int .i64 e.kind, .string e.author, .slice a e.parents.length c, .string e.body, .string ⟨#[]⟩] 24)).heap.size (w3.alloc (.cells #[.int .i64 e.kind, .string e.author, .slice a e.parents.length c, .string e.body, .string ⟨#[]⟩] 24)) Wq) => (HPR.out Wq (HB5.out Wq hq)).mono (fun r w' (h : r = .returned (.bool false) ∧ Below Wq.heap.size Wq w') => (show r = .returned (.bool false) ∧ Below (w3.alloc (.cells #[.int .i64 e.kind, .string e.author, .slice a e.parents.length c, .string e.body, .string ⟨#[]⟩] 24)).heap.size (w3.alloc (.cells #[.int .i64 e.kind, .string e.author, .slice a e.parents.length c, .string e.body, .string ⟨#[]⟩] 24)) w' from ⟨h.1, hq.trans (h.2.mono hq.size)⟩)))
  have HR5 := Lib.hid (fun (s : ByteArray) (Wq : World) (hq : Below (w3.alloc (.cells #[.int .i64 e.kind, .string e.author, .slice a e.parents.length c, .string e.body, .string ⟨#[]⟩] 24)).heap.size (w3.alloc (.cells #[.int .i64 e.kind, .string e.author, .slice a e.parents.length c, .string e.body, .string ⟨#[]⟩] 24)) Wq) => (HRR.out Wq s (HB5.out Wq hq)).mono (fun r w' (h : r = .returned (.bool (evOk { e with sig := s })) ∧ Below Wq.heap.size Wq w') => (show r = .returned (.bool (okS s)) ∧ Below (w3.alloc (.cells #[.int .i64 e.kind, .string e.author, .slice a e.parents.length c, .string e.body, .string ⟨#[]⟩] 24)).heap.size (w3.alloc (.cells #[.int .i64 e.kind, .string e.author, .slice a e.parents.length c, .string e.body, .string ⟨#[]⟩] 24)) w' from ⟨by rw [h.1, HOK.out], hq.trans (h.2.mono hq.size)⟩)))
  have bdr : Below (w3.alloc (.cells #[.int .i64 e.kind, .string e.author, .slice a e.parents.length c, .string e.body, .string ⟨#[]⟩] 24)).heap.size (w3.alloc (.cells #[.int .i64 e.kind, .string e.author, .slice a e.parents.length c, .string e.body, .string ⟨#[]⟩] 24)) (w3.alloc (.cells #[.int .i64 e.kind, .string e.author, .slice a e.parents.length c, .string e.body, .string ⟨#[]⟩] 24)).drew := (Below.refl _ _).drew
  clear HPR HRR
  go_wp2
  clear c0 c1 c2 c3 c4
  go_region_held3 (fun w' => w'.cell? ⟨w.heap.size, 0, none⟩ = some (.int .i64 e.kind) ∧ w'.cell? ⟨w.heap.size, 1, none⟩ = some (.string e.author) ∧ w'.cell? ⟨w.heap.size, 2, none⟩ = some (.slice a e.parents.length c) ∧ w'.cell? ⟨w.heap.size, 3, none⟩ = some (.string e.body) ∧ w'.cell? ⟨w.heap.size, 4, none⟩ = some (.string e.sig) ∧ w'.cell? ⟨w3.heap.size, 0, none⟩ = some (.int .i64 e.kind) ∧ w'.cell? ⟨w3.heap.size, 1, none⟩ = some (.string e.author) ∧ w'.cell? ⟨w3.heap.size, 2, none⟩ = some (.slice a e.parents.length c) ∧ w'.cell? ⟨w3.heap.size, 3, none⟩ = some (.string e.body) ∧ w'.cell? ⟨w3.heap.size, 4, none⟩ = some (.string ⟨#[]⟩) ∧ Below (w3.alloc (.cells #[.int .i64 e.kind, .string e.author, .slice a e.parents.length c, .string e.body, .string ⟨#[]⟩] 24)).heap.size (w3.alloc (.cells #[.int .i64 e.kind, .string e.author, .slice a e.parents.length c, .string e.body, .string ⟨#[]⟩] 24)) w')
    (first | exact CC.out _ b7 | exact (CC.out _ b7).1 | exact (CC.out _ b7).2.1 | exact (CC.out _ b7).2.2.1 | exact (CC.out _ b7).2.2.2.1 | exact (CC.out _ b7).2.2.2.2.1 | exact (CC.out _ b7).2.2.2.2.2.1 | exact (CC.out _ b7).2.2.2.2.2.2.1 | exact (CC.out _ b7).2.2.2.2.2.2.2.1 | exact (CC.out _ b7).2.2.2.2.2.2.2.2.1 | exact (CC.out _ b7).2.2.2.2.2.2.2.2.2.1 | exact (CC.out _ b7).2.2.2.2.2.2.2.2.2.2 | exact CC.out _ bdr | exact (CC.out _ bdr).1 | exact (CC.out _ bdr).2.1 | exact (CC.out _ bdr).2.2.1 | exact (CC.out _ bdr).2.2.2.1 | exact (CC.out _ bdr).2.2.2.2.1 | exact (CC.out _ bdr).2.2.2.2.2.1 | exact (CC.out _ bdr).2.2.2.2.2.2.1 | exact (CC.out _ bdr).2.2.2.2.2.2.2.1 | exact (CC.out _ bdr).2.2.2.2.2.2.2.2.1 | exact (CC.out _ bdr).2.2.2.2.2.2.2.2.2.1 | exact (CC.out _ bdr).2.2.2.2.2.2.2.2.2.2 | go_keep)
    (first | (go_at_call 13; refine (HP5.out _ (by first | exact b7 | exact bdr)).mono ?_; rintro r w7 ⟨rfl, b7⟩) | (go_at_call 14; refine (HR5.out _ _ (by first | exact b7 | exact bdr)).mono ?_; rintro r w7 ⟨rfl, b7⟩))
  have Q7 := Lib.hid b7
  have B7 := Lib.hid (HB5.out w7 b7)
  clear b7 bdr HP5 HR5
  obtain ⟨c0, c1, c2, c3, c4, d0, d1, d2, d3, d4, _⟩ := CC.out w7 Q7.out

  have HC8 := Lib.hid (HRC.out w7 B7.out)
  go_wp2_with fail
  refine HC8.out.mono ?_
  rintro r w9 ⟨rfl, q9⟩
  have B9 := Lib.hid (B7.out.trans (q9.mono B7.out.size))
  clear q9 c0 c1 c2 c3 c4 d0 d1 d2 d3 d4
  have HA9 := Lib.hid (HAW.out w9 B9.out)
  go_wp2_with fail
  refine HA9.out.mono ?_
  rintro r wa ⟨rfl, qa⟩
  have BA := Lib.hid (B9.out.trans (qa.mono B9.out.size))
  clear qa
  go_wp2
  go_ret
  exact ⟨rfl, BA.out⟩

set_option maxHeartbeats 4000000 in
set_option maxRecDepth 100000 in
theorem walkFF (e : E) (a : Option Addr) (c : Nat) (w : World) (he : Came w e a c) (ht : Tabs w) (hX : evOk e = false) (hY : evOk (noSig e) = false) :
    Calls Tryd.prog 3 #[evV e a c] w fun r w' => r = .returned (.bool true) ∧ Below w.heap.size w w' := by
  have HG := Lib.hid (fun W (hb : Below w.heap.size w W) => great_any W e a c (he.row.below hb) he.len he.each)
  have HAW := Lib.hid (fun (W : World) (hb : Below w.heap.size w W) => awake6 W (ht.below hb))
  have HEN := Lib.hid (fun W (hb : Below w.heap.size w W) => encode_no W e a c (he.row.below hb) he.len he.each he.body hX)
  have HCO := Lib.hid (fun W (hb : Below w.heap.size w W) => content_no W e a c (he.row.below hb) he.len he.each he.body hY)
  have HPR := Lib.hid (fun W (hb : Below w.heap.size w W) => right_any W e a c (he.row.below hb) he.len he.each he.body)
  have HRR := Lib.hid (fun W (s : ByteArray) (hb : Below w.heap.size w W) => refright_any W { e with sig := s } a c (he.row.below hb) he.len he.each he.body)
  obtain ⟨okS, hS⟩ : ∃ f : ByteArray → Bool, f = fun s => evOk { e with sig := s } := ⟨_, rfl⟩
  have s1 : okS e.sig = false := by rw [hS]; exact hX
  have s2 : okS ⟨#[]⟩ = false := by rw [hS]; exact hY
  have HOK := Lib.hid (fun s => show evOk { e with sig := s } = okS s by rw [hS])
  clear hS
  rw [hX] at HPR
  clear he ht hX hY
  unfold evV at HG HEN HCO HPR HRR ⊢
  have HG1 := Lib.hid (HG.out _ (alloc_below w (.cells #[.int .i64 e.kind, .string e.author, .slice a e.parents.length c, .string e.body, .string e.sig] 24)))
  go_enter Tryd.func3, Tryd.ntmps3
  go_wp2_with fail
  refine HG1.out.mono ?_
  rintro r w1 ⟨⟨b, rfl⟩, q1⟩
  have Q1 := Lib.hid q1
  have B1 := Lib.hid (below_box q1)
  obtain ⟨c0, c1, c2, c3, c4⟩ := box_cells q1
  clear q1 HG HG1
  cases b
  case true =>
    have HA1 := Lib.hid (HAW.out w1 B1.out)
    clear c0 c1 c2 c3 c4
    go_wp2_with fail
    refine HA1.out.mono ?_
    rintro r w2 ⟨rfl, q2⟩
    have B2 := Lib.hid (B1.out.trans (q2.mono B1.out.size))
    clear q2
    go_wp2
    go_ret
    exact ⟨rfl, B2.out⟩
  have HE1 := Lib.hid (HEN.out w1 B1.out)
  go_wp2_with fail
  refine HE1.out.mono ?_
  rintro r w2 ⟨rfl, q2⟩
  have Q2 := Lib.hid (Q1.out.trans (q2.mono Q1.out.size))
  have B2 := Lib.hid (below_box Q2.out)
  clear q2 c0 c1 c2 c3 c4 HE1 HEN
  obtain ⟨c0, c1, c2, c3, c4⟩ := box_cells Q2.out
  have HC2 := Lib.hid (HCO.out w2 B2.out)
  go_wp2_with fail
  refine HC2.out.mono ?_
  rintro r w3 ⟨rfl, q3⟩
  have Q3 := Lib.hid (Q2.out.trans (q3.mono Q2.out.size))
  clear q3 c0 c1 c2 c3 c4 HC2 HCO
  obtain ⟨c0, c1, c2, c3, c4⟩ := box_cells Q3.out
  have HLT : Hid (w.heap.size < w3.heap.size) := Lib.hid (Nat.lt_of_lt_of_le (by simp) Q3.out.size)
  have B3 := Lib.hid (below_box Q3.out)
  have CC : Hid (∀ w', Below (w3.alloc (.cells #[.int .i64 e.kind, .string e.author, .slice a e.parents.length c, .string e.body, .string ⟨#[]⟩] 24)).heap.size (w3.alloc (.cells #[.int .i64 e.kind, .string e.author, .slice a e.parents.length c, .string e.body, .string ⟨#[]⟩] 24)) w' → w'.cell? ⟨w.heap.size, 0, none⟩ = some (.int .i64 e.kind) ∧ w'.cell? ⟨w.heap.size, 1, none⟩ = some (.string e.author) ∧ w'.cell? ⟨w.heap.size, 2, none⟩ = some (.slice a e.parents.length c) ∧ w'.cell? ⟨w.heap.size, 3, none⟩ = some (.string e.body) ∧ w'.cell? ⟨w.heap.size, 4, none⟩ = some (.string e.sig) ∧ w'.cell? ⟨w3.heap.size, 0, none⟩ = some (.int .i64 e.kind) ∧ w'.cell? ⟨w3.heap.size, 1, none⟩ = some (.string e.author) ∧ w'.cell? ⟨w3.heap.size, 2, none⟩ = some (.slice a e.parents.length c) ∧ w'.cell? ⟨w3.heap.size, 3, none⟩ = some (.string e.body) ∧ w'.cell? ⟨w3.heap.size, 4, none⟩ = some (.string ⟨#[]⟩) ∧ Below (w3.alloc (.cells #[.int .i64 e.kind, .string e.author, .slice a e.parents.length c, .string e.body, .string ⟨#[]⟩] 24)).heap.size (w3.alloc (.cells #[.int .i64 e.kind, .string e.author, .slice a e.parents.length c, .string e.body, .string ⟨#[]⟩] 24)) w') := Lib.hid (fun w' q => by
    have q3 := (alloc_below w3 (.cells #[.int .i64 e.kind, .string e.author, .slice a e.parents.length c, .string e.body, .string ⟨#[]⟩] 24)).trans (q.mono (alloc_below w3 _).size)
    obtain ⟨a0, a1, a2, a3, a4⟩ := box_cells (Q3.out.trans (q3.mono Q3.out.size))
    obtain ⟨d0, d1, d2, d3, d4⟩ := box_cells q
    exact ⟨a0, a1, a2, a3, a4, d0, d1, d2, d3, d4, q⟩)
  have HB5 : Hid (∀ w', Below (w3.alloc (.cells #[.int .i64 e.kind, .string e.author, .slice a e.parents.length c, .string e.body, .string ⟨#[]⟩] 24)).heap.size (w3.alloc (.cells #[.int .i64 e.kind, .string e.author, .slice a e.parents.length c, .string e.body, .string ⟨#[]⟩] 24)) w' → Below w.heap.size w w') := Lib.hid (fun w' q => B3.out.trans ((below_box q).mono B3.out.size))
  have HP5 := Lib.hid (fun (Wq : World) (hq : Below (w3.alloc (.cells #[.int .i64 e.kind, .string e.author, .slice a e.parents.length c, .string e.body, .string ⟨#[]⟩] 24)).heap.size (w3.alloc (.cells #[.int .i64 e.kind, .string e.author, .slice a e.parents.length c, .string e.body, .string ⟨#[]⟩] 24)) Wq) => (HPR.out Wq (HB5.out Wq hq)).mono (fun r w' (h : r = .returned (.bool false) ∧ Below Wq.heap.size Wq w') => (show r = .returned (.bool false) ∧ Below (w3.alloc (.cells #[.int .i64 e.kind, .string e.author, .slice a e.parents.length c, .string e.body, .string ⟨#[]⟩] 24)).heap.size (w3.alloc (.cells #[.int .i64 e.kind, .string e.author, .slice a e.parents.length c, .string e.body, .string ⟨#[]⟩] 24)) w' from ⟨h.1, hq.trans (h.2.mono hq.size)⟩)))
  have HR5 := Lib.hid (fun (s : ByteArray) (Wq : World) (hq : Below (w3.alloc (.cells #[.int .i64 e.kind, .string e.author, .slice a e.parents.length c, .string e.body, .string ⟨#[]⟩] 24)).heap.size (w3.alloc (.cells #[.int .i64 e.kind, .string e.author, .slice a e.parents.length c, .string e.body, .string ⟨#[]⟩] 24)) Wq) => (HRR.out Wq s (HB5.out Wq hq)).mono (fun r w' (h : r = .returned (.bool (evOk { e with sig := s })) ∧ Below Wq.heap.size Wq w') => (show r = .returned (.bool (okS s)) ∧ Below (w3.alloc (.cells #[.int .i64 e.kind, .string e.author, .slice a e.parents.length c, .string e.body, .string ⟨#[]⟩] 24)).heap.size (w3.alloc (.cells #[.int .i64 e.kind, .string e.author, .slice a e.parents.length c, .string e.body, .string ⟨#[]⟩] 24)) w' from ⟨by rw [h.1, HOK.out], hq.trans (h.2.mono hq.size)⟩)))
  have bdr : Below (w3.alloc (.cells #[.int .i64 e.kind, .string e.author, .slice a e.parents.length c, .string e.body, .string ⟨#[]⟩] 24)).heap.size (w3.alloc (.cells #[.int .i64 e.kind, .string e.author, .slice a e.parents.length c, .string e.body, .string ⟨#[]⟩] 24)) (w3.alloc (.cells #[.int .i64 e.kind, .string e.author, .slice a e.parents.length c, .string e.body, .string ⟨#[]⟩] 24)).drew := (Below.refl _ _).drew
  clear HPR HRR
  go_wp2
  clear c0 c1 c2 c3 c4
  go_region_held3 (fun w' => w'.cell? ⟨w.heap.size, 0, none⟩ = some (.int .i64 e.kind) ∧ w'.cell? ⟨w.heap.size, 1, none⟩ = some (.string e.author) ∧ w'.cell? ⟨w.heap.size, 2, none⟩ = some (.slice a e.parents.length c) ∧ w'.cell? ⟨w.heap.size, 3, none⟩ = some (.string e.body) ∧ w'.cell? ⟨w.heap.size, 4, none⟩ = some (.string e.sig) ∧ w'.cell? ⟨w3.heap.size, 0, none⟩ = some (.int .i64 e.kind) ∧ w'.cell? ⟨w3.heap.size, 1, none⟩ = some (.string e.author) ∧ w'.cell? ⟨w3.heap.size, 2, none⟩ = some (.slice a e.parents.length c) ∧ w'.cell? ⟨w3.heap.size, 3, none⟩ = some (.string e.body) ∧ w'.cell? ⟨w3.heap.size, 4, none⟩ = some (.string ⟨#[]⟩) ∧ Below (w3.alloc (.cells #[.int .i64 e.kind, .string e.author, .slice a e.parents.length c, .string e.body, .string ⟨#[]⟩] 24)).heap.size (w3.alloc (.cells #[.int .i64 e.kind, .string e.author, .slice a e.parents.length c, .string e.body, .string ⟨#[]⟩] 24)) w')
    (first | exact CC.out _ b7 | exact (CC.out _ b7).1 | exact (CC.out _ b7).2.1 | exact (CC.out _ b7).2.2.1 | exact (CC.out _ b7).2.2.2.1 | exact (CC.out _ b7).2.2.2.2.1 | exact (CC.out _ b7).2.2.2.2.2.1 | exact (CC.out _ b7).2.2.2.2.2.2.1 | exact (CC.out _ b7).2.2.2.2.2.2.2.1 | exact (CC.out _ b7).2.2.2.2.2.2.2.2.1 | exact (CC.out _ b7).2.2.2.2.2.2.2.2.2.1 | exact (CC.out _ b7).2.2.2.2.2.2.2.2.2.2 | exact CC.out _ bdr | exact (CC.out _ bdr).1 | exact (CC.out _ bdr).2.1 | exact (CC.out _ bdr).2.2.1 | exact (CC.out _ bdr).2.2.2.1 | exact (CC.out _ bdr).2.2.2.2.1 | exact (CC.out _ bdr).2.2.2.2.2.1 | exact (CC.out _ bdr).2.2.2.2.2.2.1 | exact (CC.out _ bdr).2.2.2.2.2.2.2.1 | exact (CC.out _ bdr).2.2.2.2.2.2.2.2.1 | exact (CC.out _ bdr).2.2.2.2.2.2.2.2.2.1 | exact (CC.out _ bdr).2.2.2.2.2.2.2.2.2.2 | go_keep)
    (first | (go_at_call 13; refine (HP5.out _ (by first | exact b7 | exact bdr)).mono ?_; rintro r w7 ⟨rfl, b7⟩) | (go_at_call 14; refine (HR5.out _ _ (by first | exact b7 | exact bdr)).mono ?_; rintro r w7 ⟨rfl, b7⟩))
  have Q7 := Lib.hid b7
  have B7 := Lib.hid (HB5.out w7 b7)
  clear b7 bdr HP5 HR5
  obtain ⟨c0, c1, c2, c3, c4, d0, d1, d2, d3, d4, _⟩ := CC.out w7 Q7.out
  have HA9 := Lib.hid (HAW.out w7 B7.out)
  go_wp2_with fail
  refine HA9.out.mono ?_
  rintro r wa ⟨rfl, qa⟩
  have BA := Lib.hid (B7.out.trans (qa.mono B7.out.size))
  clear qa
  go_wp2
  go_ret
  exact ⟨rfl, BA.out⟩

theorem walk (e : E) (a : Option Addr) (c : Nat) (w : World) (he : Came w e a c) (ht : Tabs w) :
    Calls Tryd.prog 3 #[evV e a c] w fun r w' => r = .returned (.bool true) ∧ Below w.heap.size w w' := by
  cases hX : evOk e
  · cases hY : evOk (noSig e)
    · exact walkFF e a c w he ht hX hY
    · exact walkFT e a c w he ht hX hY
  · exact walkTT e a c w he ht hX (noSig_ok hX)

theorem own : ownKnob Tryd.prog.godebug = none := by kernel_rfl
theorem laidOut : laidOutB Tryd.prog = true := by kernel_rfl

set_option maxRecDepth 100000 in
theorem contract (H : Type) (enc : TypeId × Value → H) (W : World) (base : Nat) (args : Array Value) (ds gs : List (DataW H)) (before : List MemPlace)
    (hval : ∀ (j : Nat) t v, Tryd.f3.params[j]? = some t → args[j]? = some v → Value.okWide Tryd.prog W .any base t v)
    (hW : DataW.Whole enc Tryd.prog Tryd.f3.params.toList Rows.eventRightsSpec.vars false W args.toList ds gs before) (hL : laidMetH Tryd.prog Rows.eventRightsRow.laid W) :
    Calls Tryd.prog 3 args W fun e W' => ∃ v, e = .returned v ∧ Rows.eventRightsSpec.post enc Tryd.prog Tryd.f3 false true false false W args v W' := by
  have hW' := hW
  obtain ⟨p, q, hA0, hV, rfl, hfz, hnd⟩ := hW
  have hA : DataW.TrodAll enc Tryd.prog W 0 (fun _ => true) true Tryd.f3.params.toList args.toList ds p := hA0
  rw [Tryd.params3] at hA hval
  obtain ⟨v0, vs0, d0, ds0, p0, q0, hargs, rfl, rfl, h0, r0⟩ := trodAll_cons hA
  obtain ⟨rfl, rfl, rfl⟩ := trodAll_nil r0
  obtain rfl : args = #[v0] := by cases args; simp_all
  obtain ⟨rfl, rfl⟩ := trodVars_none hV
  have k0 := h0
  have lt0 : ∀ x ∈ p0, x.block < W.heap.size := by obtain ⟨m, hm⟩ := k0; exact DataW.trod_lt m _ _ _ hm
  obtain ⟨e0, a0, c0, rfl, i0, _⟩ := open_event (hval 0 24 v0 rfl rfl) h0
  clear hA0
  refine (walk e0 a0 c0 W i0 (tabs_of_laid hL)).mono fun e W' ⟨he, bel⟩ => ?_
  subst he
  exact ⟨_, rfl, _, _, _, [], _, [], hW', trodAll_mk1 (shut_bool Tryd.underlying4 _), (trodAll_cons_mk (Below.trod laidOut (by kernel_rfl) (of_decide_eq_true (by kernel_rfl)) k0 bel lt0) trodAll_mk0), rfl, bel.frame _, fun h => by cases h⟩

theorem laid_met (os : Os) : laidMet Tryd.prog Rows.eventRightsRow.laid (({ World.holding Tryd.prog os ⟨#[], #[], []⟩ with heap := ((World.holding Tryd.prog os ⟨#[], #[], []⟩).heap.modify 0 fun | .cells _ t frozen => .cells #[.int .u32 1779033703, .int .u32 3144134277, .int .u32 1013904242, .int .u32 2773480762, .int .u32 1359893119, .int .u32 2600822924, .int .u32 528734635, .int .u32 1541459225] t frozen | o => o).modify 1 fun | .cells _ t frozen => .cells #[.int .u32 1116352408, .int .u32 1899447441, .int .u32 3049323471, .int .u32 3921009573, .int .u32 961987163, .int .u32 1508970993, .int .u32 2453635748, .int .u32 2870763221, .int .u32 3624381080, .int .u32 310598401, .int .u32 607225278, .int .u32 1426881987, .int .u32 1925078388, .int .u32 2162078206, .int .u32 2614888103, .int .u32 3248222580, .int .u32 3835390401, .int .u32 4022224774, .int .u32 264347078, .int .u32 604807628, .int .u32 770255983, .int .u32 1249150122, .int .u32 1555081692, .int .u32 1996064986, .int .u32 2554220882, .int .u32 2821834349, .int .u32 2952996808, .int .u32 3210313671, .int .u32 3336571891, .int .u32 3584528711, .int .u32 113926993, .int .u32 338241895, .int .u32 666307205, .int .u32 773529912, .int .u32 1294757372, .int .u32 1396182291, .int .u32 1695183700, .int .u32 1986661051, .int .u32 2177026350, .int .u32 2456956037, .int .u32 2730485921, .int .u32 2820302411, .int .u32 3259730800, .int .u32 3345764771, .int .u32 3516065817, .int .u32 3600352804, .int .u32 4094571909, .int .u32 275423344, .int .u32 430227734, .int .u32 506948616, .int .u32 659060556, .int .u32 883997877, .int .u32 958139571, .int .u32 1322822218, .int .u32 1537002063, .int .u32 1747873779, .int .u32 1955562222, .int .u32 2024104815, .int .u32 2227730452, .int .u32 2361852424, .int .u32 2428436474, .int .u32 2756734187, .int .u32 3204031479, .int .u32 3329325298] t frozen | o => o } : World).forCall (fun _ _ => 0) ⟨#[], #[.agg #[.int .i64 0, .string ByteArray.empty, .slice none 0 0, .string ByteArray.empty, .string ByteArray.empty]], []⟩).memory :=
  laidMet_of_run' 8 (by kernel_rfl) (by kernel_rfl)
theorem reads (os : Os) {H : Type} (enc : TypeId × Value → H) : ∃ places, DataW.whole enc Tryd.prog (({ World.holding Tryd.prog os ⟨#[], #[], []⟩ with heap := ((World.holding Tryd.prog os ⟨#[], #[], []⟩).heap.modify 0 fun | .cells _ t frozen => .cells #[.int .u32 1779033703, .int .u32 3144134277, .int .u32 1013904242, .int .u32 2773480762, .int .u32 1359893119, .int .u32 2600822924, .int .u32 528734635, .int .u32 1541459225] t frozen | o => o).modify 1 fun | .cells _ t frozen => .cells #[.int .u32 1116352408, .int .u32 1899447441, .int .u32 3049323471, .int .u32 3921009573, .int .u32 961987163, .int .u32 1508970993, .int .u32 2453635748, .int .u32 2870763221, .int .u32 3624381080, .int .u32 310598401, .int .u32 607225278, .int .u32 1426881987, .int .u32 1925078388, .int .u32 2162078206, .int .u32 2614888103, .int .u32 3248222580, .int .u32 3835390401, .int .u32 4022224774, .int .u32 264347078, .int .u32 604807628, .int .u32 770255983, .int .u32 1249150122, .int .u32 1555081692, .int .u32 1996064986, .int .u32 2554220882, .int .u32 2821834349, .int .u32 2952996808, .int .u32 3210313671, .int .u32 3336571891, .int .u32 3584528711, .int .u32 113926993, .int .u32 338241895, .int .u32 666307205, .int .u32 773529912, .int .u32 1294757372, .int .u32 1396182291, .int .u32 1695183700, .int .u32 1986661051, .int .u32 2177026350, .int .u32 2456956037, .int .u32 2730485921, .int .u32 2820302411, .int .u32 3259730800, .int .u32 3345764771, .int .u32 3516065817, .int .u32 3600352804, .int .u32 4094571909, .int .u32 275423344, .int .u32 430227734, .int .u32 506948616, .int .u32 659060556, .int .u32 883997877, .int .u32 958139571, .int .u32 1322822218, .int .u32 1537002063, .int .u32 1747873779, .int .u32 1955562222, .int .u32 2024104815, .int .u32 2227730452, .int .u32 2361852424, .int .u32 2428436474, .int .u32 2756734187, .int .u32 3204031479, .int .u32 3329325298] t frozen | o => o } : World).forCall (fun _ _ => 0) ⟨#[], #[.agg #[.int .i64 0, .string ByteArray.empty, .slice none 0 0, .string ByteArray.empty, .string ByteArray.empty]], []⟩).memory Tryd.f3.params.toList Rows.eventRightsSpec.vars false (#[.agg #[.int .i64 0, .string ByteArray.empty, .slice none 0 0, .string ByteArray.empty, .string ByteArray.empty]] : Array Value).toList 8 = some ([.agg [.lit (.int .i64 0), .lit (.string []), .nil, .lit (.string []), .lit (.string [])]], [], places) :=
  ⟨[], by kernel_rfl⟩

set_option maxRecDepth 100000 in
theorem lifted (os : Os) (started : os.Started) (H : Type) (enc : TypeId × Value → H) (F : Stop.Interp) :
    ReturnsInHanded {} Tryd.checked os 3 .any ((OpenSpec.ofChange Rows.eventRightsSpec).preRow enc Tryd.prog Tryd.f3 Rows.eventRightsRow.domain false Rows.eventRightsRow.laid) (((OpenSpec.ofChange Rows.eventRightsSpec).at F).post enc Tryd.prog Tryd.f3 false true false false) := by
  obtain ⟨places, hx⟩ := reads os enc
  refine returnsInHanded_of_row (C := Tryd.checked) (s := OpenSpec.ofChange Rows.eventRightsSpec) own started (by kernel_rfl) Tryd.func3
    (witness_row_at (enc := enc) (C := Tryd.checked) false ({ World.holding Tryd.prog os ⟨#[], #[], []⟩ with heap := ((World.holding Tryd.prog os ⟨#[], #[], []⟩).heap.modify 0 fun | .cells _ t frozen => .cells #[.int .u32 1779033703, .int .u32 3144134277, .int .u32 1013904242, .int .u32 2773480762, .int .u32 1359893119, .int .u32 2600822924, .int .u32 528734635, .int .u32 1541459225] t frozen | o => o).modify 1 fun | .cells _ t frozen => .cells #[.int .u32 1116352408, .int .u32 1899447441, .int .u32 3049323471, .int .u32 3921009573, .int .u32 961987163, .int .u32 1508970993, .int .u32 2453635748, .int .u32 2870763221, .int .u32 3624381080, .int .u32 310598401, .int .u32 607225278, .int .u32 1426881987, .int .u32 1925078388, .int .u32 2162078206, .int .u32 2614888103, .int .u32 3248222580, .int .u32 3835390401, .int .u32 4022224774, .int .u32 264347078, .int .u32 604807628, .int .u32 770255983, .int .u32 1249150122, .int .u32 1555081692, .int .u32 1996064986, .int .u32 2554220882, .int .u32 2821834349, .int .u32 2952996808, .int .u32 3210313671, .int .u32 3336571891, .int .u32 3584528711, .int .u32 113926993, .int .u32 338241895, .int .u32 666307205, .int .u32 773529912, .int .u32 1294757372, .int .u32 1396182291, .int .u32 1695183700, .int .u32 1986661051, .int .u32 2177026350, .int .u32 2456956037, .int .u32 2730485921, .int .u32 2820302411, .int .u32 3259730800, .int .u32 3345764771, .int .u32 3516065817, .int .u32 3600352804, .int .u32 4094571909, .int .u32 275423344, .int .u32 430227734, .int .u32 506948616, .int .u32 659060556, .int .u32 883997877, .int .u32 958139571, .int .u32 1322822218, .int .u32 1537002063, .int .u32 1747873779, .int .u32 1955562222, .int .u32 2024104815, .int .u32 2227730452, .int .u32 2361852424, .int .u32 2428436474, .int .u32 2756734187, .int .u32 3204031479, .int .u32 3329325298] t frozen | o => o } : World) #[.agg #[.int .i64 0, .string ByteArray.empty, .slice none 0 0, .string ByteArray.empty, .string ByteArray.empty]] rfl (by kernel_rfl) (by kernel_rfl) (by kernel_rfl)
      (OpenSpec.preRow_of_cond 8 hx (by kernel_rfl) (fun k hk => by cases hk) (by kernel_rfl) (laid_met os))) ?_
  intro W base args ds gs before hval hW _ _ _ hL _ _
  exact contract H enc W base args ds gs before hval hW hL

theorem said : Rows.EventRightsSaid :=
  OpenClaim.holds_of_cond 3 Tryd.f3 rfl rfl rfl rfl rfl rfl rfl ⟨rfl, rfl, rfl, rfl, rfl⟩ rfl rfl rfl rfl rfl (by kernel_rfl) Tryd.func3 (by kernel_rfl)
    (of_decide_eq_true (by kernel_rfl)) (by unfold Func.isWrapper; first | (rw [if_pos (by decide +kernel)]; kernel_rfl) | (rw [if_neg (by decide +kernel)]; exact ⟨rfl, rfl⟩))
    (fun os started H enc _ F => by rw [OpenClaim.pre_eq_preRow]; exact lifted os started H enc F)

theorem plain (f : FuncId) (fn : Func) (hf : Tryd.pinned.checked.prog.funcNamed Rows.eventRightsRow.func = some f) (hfn : Tryd.pinned.checked.prog.funcs[f]? = some fn) :
    false = Tryd.pinned.checked.prog.looks [] ∧ ∀ (j : Nat) t, fn.params[j]? = some t → Tryd.pinned.checked.prog.wantsStandIn t = false := by
  obtain rfl : f = 3 := Option.some.inj ((show Tryd.prog.funcNamed Rows.eventRightsRow.func = some 3 by kernel_rfl).symm.trans hf) |>.symm
  obtain rfl : fn = Tryd.f3 := (Option.some.inj (Tryd.func3.symm.trans hfn)).symm
  refine ⟨by kernel_rfl, fun j t ht => ?_⟩
  rw [Tryd.params3] at ht
  have hm : t = 24 := by first | simpa using Array.mem_of_getElem? ht | (have h := Array.mem_of_getElem? ht; simp only [List.mem_toArray, List.mem_cons, List.not_mem_nil, or_false] at h; rcases h with rfl <;> simp)
  rcases hm with rfl
  · exact (show Tryd.prog.wantsStandIn 24 = false by kernel_rfl)

theorem card : Rows.EventRightsCardSaid :=
  Claim7.holds_tied_plain_at .later [] _ _ _ _ said (fun _ h => by cases h) (by kernel_rfl) (fun _ h => by cases h) eventRights_row_tie rfl ⟨rfl, rfl⟩ (by kernel_rfl) rfl plain (by kernel_rfl)

end Go.Proofs.YtobmljokkdmnnaaRRRRDoor.EventRights
namespace Go.Proofs.YtobmljokkdmnnaaRRRRDoor
theorem eventRights_card : Rows.EventRightsCardSaid := EventRights.card
#print axioms eventRights_card
end Go.Proofs.YtobmljokkdmnnaaRRRRDoor

