/-
  Contracts of package store: Enter, Event, Spend, Queue, Done, as a whole.
-/
import Derived.Test.YtffnkomnldgcaaaGreatDoorSo6
namespace Go.Proofs.YtffnkomnldgcaaaGreatDoor
open Go.RowKit Go.Pal Go.Pal.Dk Go.Pal.Fr Go.Pal.Cr

set_option maxHeartbeats 1000000 in
set_option maxRecDepth 100000 in
theorem enter_any {w : World} {base B Lb D : Nat} {d : Dk} {L : Lay} {gs : List (List ByteArray)} {s : SS} {ev q : Value} (h : SoAt w base B Lb D d L gs false s ev q) (hr : Ready d gs s) (t : ByteArray) (hroom : (doesR s 0 t 0).1 = 0 → usedF d.files + (8 + (doesR s 0 t 0).2.size) ≤ d.room) :
    Calls Tryz.prog 22 #[.pointer (some ⟨B, 0, none⟩), .string t] w (ActP w base B Lb D d L gs s ev q 0 t 0) := by
  have hmf : ∀ (fn : Fn) (first cap : Array Value) (w : World), (Instr.makeFunc fn first cap).run Tryz.prog w = .ok (.func fn first cap) w := fun _ _ _ _ => rfl
  obtain ⟨w2, hw2⟩ : ∃ W, W = ((w.alloc (.cells #[.pointer (some ⟨B, 0, none⟩)] 28)).alloc (.cells #[.string t] 9)) := ⟨_, rfl⟩
  have b2 : Below w.heap.size w w2 := by rw [hw2]; exact ((Below.refl _ _).alloc (Nat.le_refl _) _).alloc (by simp) _
  have k0 : w2.cell? ⟨w.heap.size, 0, none⟩ = some (.pointer (some ⟨B, 0, none⟩)) := by
    have h1 : Blk (w.alloc (.cells #[.pointer (some ⟨B, 0, none⟩)] 28)) w.heap.size 28 [.pointer (some ⟨B, 0, none⟩)] := Blk.new w 28 [.pointer (some ⟨B, 0, none⟩)]
    rw [hw2]; exact (h1.alloc _).cell 0
  have k1 : w2.cell? ⟨w.heap.size + 1, 0, none⟩ = some (.string t) := by
    have h1 : Blk w2 (w.heap.size + 1) 9 [.string t] := by rw [hw2]; exact Blk.new' (w.alloc (.cells #[.pointer (some ⟨B, 0, none⟩)] 28)) 9 [.string t] (by simp)
    exact h1.cell 0
  have h2 := h.below b2 (Nat.le_refl _)
  have HWR := Lib.hid (enter_wrong h2.st t (w.heap.size + 1) w.heap.size k1 k0)
  have H2 := Lib.hid h2
  have HRD := Lib.hid hr
  have HRM := Lib.hid hroom
  have B2 := Lib.hid b2
  clear h h2 hr hroom k0 k1 b2
  go_enter Tryz.func22, Tryz.ntmps22
  go_wp2_with fail
  rw [← hw2]
  clear hw2 hmf
  by_cases he : (doesR s 0 t 0).1 = 0
  · rw [he] at HWR
    have hd2 : (doesR s 0 t 0).2 = (⟨#[82]⟩ : ByteArray) ++ t := by
      unfold doesR at he ⊢
      rw [if_pos rfl] at he ⊢
      split at he
      · cases he
      · rename_i h1
        rw [if_neg h1]
        split at he
        · cases he
        · rename_i h2
          rw [if_neg h2]; rfl
    have hsz := room_size he
    have hrm := HRM.out he
    have htk := does_take s 0 t 0 he
    rw [hd2] at hsz hrm htk
    refine (lay_ok H2.out HRD.out.segs HRD.out.few HRD.out.flat HRD.out.len HRD.out.sz (Nat.le_refl _) _ _ _ _ HWR.out hsz hrm htk).mono ?_
    intro e w3 hL
    have HL := Lib.hid hL
    have HE := Lib.hid he
    have HD2 := Lib.hid hd2
    have hex : ∃ er : Int, e = .returned (.int .i64 er) := by
      rcases hL with ⟨_, h, _⟩ | ⟨_, h, _⟩
      · exact ⟨_, h⟩
      · exact ⟨_, h⟩
    obtain ⟨er, rfl⟩ := hex
    clear hL he hd2 hsz hrm htk
    go_wp2
    go_ret
    exact ⟨fun h => absurd HE.out h, fun _ => by rw [HD2.out]; exact LaidP.pre B2.out HL.out⟩
  · refine (lay_wrong _ B _ _ _ _ _ HWR.out he).mono ?_
    rintro e w3 ⟨rfl, b3⟩
    have HE := Lib.hid he
    have B3 := Lib.hid b3
    generalize hge : (doesR s 0 t 0).1 = er at *
    have HGE := Lib.hid hge
    clear hge
    clear he b3
    go_wp2
    go_ret
    exact ⟨fun _ => ⟨by rw [HGE.out]; rfl, B2.out.trans (B3.out.mono B2.out.size)⟩, fun h => absurd (HGE.out.symm.trans h) HE.out⟩

set_option maxHeartbeats 1000000 in
set_option maxRecDepth 100000 in
theorem event_any {w : World} {base B Lb D : Nat} {d : Dk} {L : Lay} {gs : List (List ByteArray)} {s : SS} {ev q : Value} (h : SoAt w base B Lb D d L gs false s ev q) (hr : Ready d gs s) (t : ByteArray) (hroom : (doesR s 1 t 0).1 = 0 → usedF d.files + (8 + (doesR s 1 t 0).2.size) ≤ d.room) :
    Calls Tryz.prog 23 #[.pointer (some ⟨B, 0, none⟩), .string t] w (ActP w base B Lb D d L gs s ev q 1 t 0) := by
  have hmf : ∀ (fn : Fn) (first cap : Array Value) (w : World), (Instr.makeFunc fn first cap).run Tryz.prog w = .ok (.func fn first cap) w := fun _ _ _ _ => rfl
  obtain ⟨w2, hw2⟩ : ∃ W, W = (w.alloc (.cells #[.string t] 9)) := ⟨_, rfl⟩
  have b2 : Below w.heap.size w w2 := by rw [hw2]; exact (Below.refl _ _).alloc (Nat.le_refl _) _
  have k0 : w2.cell? ⟨w.heap.size, 0, none⟩ = some (.string t) := by
    have h1 : Blk w2 w.heap.size 9 [.string t] := by rw [hw2]; exact Blk.new w 9 [.string t]
    exact h1.cell 0
  have h2 := h.below b2 (Nat.le_refl _)
  have HWR := Lib.hid (event_wrong h2.st t w.heap.size k0)
  have H2 := Lib.hid h2
  have HRD := Lib.hid hr
  have HRM := Lib.hid hroom
  have B2 := Lib.hid b2
  clear h h2 hr hroom k0 b2
  go_enter Tryz.func23, Tryz.ntmps23
  go_wp2_with fail
  rw [← hw2]
  clear hw2 hmf
  by_cases he : (doesR s 1 t 0).1 = 0
  · rw [he] at HWR
    have hd2 : (doesR s 1 t 0).2 = (⟨#[69]⟩ : ByteArray) ++ t := by
      unfold doesR at he ⊢
      rw [if_neg (by decide), if_pos rfl] at he ⊢
      split at he
      · cases he
      · rename_i h1
        rw [if_neg h1]; rfl
    have hsz := room_size he
    have hrm := HRM.out he
    have htk := does_take s 1 t 0 he
    rw [hd2] at hsz hrm htk
    refine (lay_ok H2.out HRD.out.segs HRD.out.few HRD.out.flat HRD.out.len HRD.out.sz (Nat.le_refl _) _ _ _ _ HWR.out hsz hrm htk).mono ?_
    intro e w3 hL
    have HL := Lib.hid hL
    have HE := Lib.hid he
    have HD2 := Lib.hid hd2
    have hex : ∃ er : Int, e = .returned (.int .i64 er) := by
      rcases hL with ⟨_, h, _⟩ | ⟨_, h, _⟩
      · exact ⟨_, h⟩
      · exact ⟨_, h⟩
    obtain ⟨er, rfl⟩ := hex
    clear hL he hd2 hsz hrm htk
    go_wp2
    go_ret
    exact ⟨fun h => absurd HE.out h, fun _ => by rw [HD2.out]; exact LaidP.pre B2.out HL.out⟩
  · refine (lay_wrong _ B _ _ _ _ _ HWR.out he).mono ?_
    rintro e w3 ⟨rfl, b3⟩
    have HE := Lib.hid he
    have B3 := Lib.hid b3
    generalize hge : (doesR s 1 t 0).1 = er at *
    have HGE := Lib.hid hge
    clear hge
    clear he b3
    go_wp2
    go_ret
    exact ⟨fun _ => ⟨by rw [HGE.out]; rfl, B2.out.trans (B3.out.mono B2.out.size)⟩, fun h => absurd (HGE.out.symm.trans h) HE.out⟩

set_option maxHeartbeats 1000000 in
set_option maxRecDepth 100000 in
theorem queue_any {w : World} {base B Lb D : Nat} {d : Dk} {L : Lay} {gs : List (List ByteArray)} {s : SS} {ev q : Value} (h : SoAt w base B Lb D d L gs false s ev q) (hr : Ready d gs s) (t : ByteArray) (hroom : (doesR s 3 t 0).1 = 0 → usedF d.files + (8 + (doesR s 3 t 0).2.size) ≤ d.room) :
    Calls Tryz.prog 16 #[.pointer (some ⟨B, 0, none⟩), .string t] w (ActP w base B Lb D d L gs s ev q 3 t 0) := by
  have hmf : ∀ (fn : Fn) (first cap : Array Value) (w : World), (Instr.makeFunc fn first cap).run Tryz.prog w = .ok (.func fn first cap) w := fun _ _ _ _ => rfl
  obtain ⟨w2, hw2⟩ : ∃ W, W = ((w.alloc (.cells #[.pointer (some ⟨B, 0, none⟩)] 28)).alloc (.cells #[.string t] 9)) := ⟨_, rfl⟩
  have b2 : Below w.heap.size w w2 := by rw [hw2]; exact ((Below.refl _ _).alloc (Nat.le_refl _) _).alloc (by simp) _
  have k0 : w2.cell? ⟨w.heap.size, 0, none⟩ = some (.pointer (some ⟨B, 0, none⟩)) := by
    have h1 : Blk (w.alloc (.cells #[.pointer (some ⟨B, 0, none⟩)] 28)) w.heap.size 28 [.pointer (some ⟨B, 0, none⟩)] := Blk.new w 28 [.pointer (some ⟨B, 0, none⟩)]
    rw [hw2]; exact (h1.alloc _).cell 0
  have k1 : w2.cell? ⟨w.heap.size + 1, 0, none⟩ = some (.string t) := by
    have h1 : Blk w2 (w.heap.size + 1) 9 [.string t] := by rw [hw2]; exact Blk.new' (w.alloc (.cells #[.pointer (some ⟨B, 0, none⟩)] 28)) 9 [.string t] (by simp)
    exact h1.cell 0
  have h2 := h.below b2 (Nat.le_refl _)
  have HWR := Lib.hid (queue_wrong h2.st t (w.heap.size + 1) w.heap.size k1 k0)
  have H2 := Lib.hid h2
  have HRD := Lib.hid hr
  have HRM := Lib.hid hroom
  have B2 := Lib.hid b2
  clear h h2 hr hroom k0 k1 b2
  go_enter Tryz.func16, Tryz.ntmps16
  go_wp2_with fail
  rw [← hw2]
  clear hw2 hmf
  by_cases he : (doesR s 3 t 0).1 = 0
  · rw [he] at HWR
    have hd2 : (doesR s 3 t 0).2 = (⟨#[81]⟩ : ByteArray) ++ t := by
      unfold doesR at he ⊢
      rw [if_neg (by decide), if_neg (by decide), if_neg (by decide), if_pos rfl] at he ⊢
      split at he
      · cases he
      · rename_i h1
        rw [if_neg h1]
        split at he
        · cases he
        · rename_i h2
          rw [if_neg h2]; rfl
    have hsz := room_size he
    have hrm := HRM.out he
    have htk := does_take s 3 t 0 he
    rw [hd2] at hsz hrm htk
    refine (lay_ok H2.out HRD.out.segs HRD.out.few HRD.out.flat HRD.out.len HRD.out.sz (Nat.le_refl _) _ _ _ _ HWR.out hsz hrm htk).mono ?_
    intro e w3 hL
    have HL := Lib.hid hL
    have HE := Lib.hid he
    have HD2 := Lib.hid hd2
    have hex : ∃ er : Int, e = .returned (.int .i64 er) := by
      rcases hL with ⟨_, h, _⟩ | ⟨_, h, _⟩
      · exact ⟨_, h⟩
      · exact ⟨_, h⟩
    obtain ⟨er, rfl⟩ := hex
    clear hL he hd2 hsz hrm htk
    go_wp2
    go_ret
    exact ⟨fun h => absurd HE.out h, fun _ => by rw [HD2.out]; exact LaidP.pre B2.out HL.out⟩
  · refine (lay_wrong _ B _ _ _ _ _ HWR.out he).mono ?_
    rintro e w3 ⟨rfl, b3⟩
    have HE := Lib.hid he
    have B3 := Lib.hid b3
    generalize hge : (doesR s 3 t 0).1 = er at *
    have HGE := Lib.hid hge
    clear hge
    clear he b3
    go_wp2
    go_ret
    exact ⟨fun _ => ⟨by rw [HGE.out]; rfl, B2.out.trans (B3.out.mono B2.out.size)⟩, fun h => absurd (HGE.out.symm.trans h) HE.out⟩

set_option maxHeartbeats 1000000 in
set_option maxRecDepth 100000 in
theorem done_any {w : World} {base B Lb D : Nat} {d : Dk} {L : Lay} {gs : List (List ByteArray)} {s : SS} {ev q : Value} (h : SoAt w base B Lb D d L gs false s ev q) (hr : Ready d gs s) (hroom : (doesR s 4 ByteArray.empty 0).1 = 0 → usedF d.files + (8 + (doesR s 4 ByteArray.empty 0).2.size) ≤ d.room) :
    Calls Tryz.prog 17 #[.pointer (some ⟨B, 0, none⟩)] w (ActP w base B Lb D d L gs s ev q 4 ByteArray.empty 0) := by
  have hmf : ∀ (fn : Fn) (first cap : Array Value) (w : World), (Instr.makeFunc fn first cap).run Tryz.prog w = .ok (.func fn first cap) w := fun _ _ _ _ => rfl
  obtain ⟨w2, hw2⟩ : ∃ W, W = (w.alloc (.cells #[.pointer (some ⟨B, 0, none⟩)] 28)) := ⟨_, rfl⟩
  have b2 : Below w.heap.size w w2 := by rw [hw2]; exact (Below.refl _ _).alloc (Nat.le_refl _) _
  have k0 : w2.cell? ⟨w.heap.size, 0, none⟩ = some (.pointer (some ⟨B, 0, none⟩)) := by
    have h1 : Blk w2 w.heap.size 28 [.pointer (some ⟨B, 0, none⟩)] := by rw [hw2]; exact Blk.new w 28 [.pointer (some ⟨B, 0, none⟩)]
    exact h1.cell 0
  have h2 := h.below b2 (Nat.le_refl _)
  have HWR := Lib.hid (done_wrong h2.st w.heap.size k0)
  have H2 := Lib.hid h2
  have HRD := Lib.hid hr
  have HRM := Lib.hid hroom
  have B2 := Lib.hid b2
  clear h h2 hr hroom k0 b2
  go_enter Tryz.func17, Tryz.ntmps17
  go_wp2_with fail
  rw [← hw2]
  clear hw2 hmf
  by_cases he : (doesR s 4 ByteArray.empty 0).1 = 0
  · rw [he] at HWR
    have hd2 : (doesR s 4 ByteArray.empty 0).2 = (⟨#[68]⟩ : ByteArray) ++ (⟨#[]⟩ : ByteArray) := by
      unfold doesR at he ⊢
      rw [if_neg (by decide), if_neg (by decide), if_neg (by decide), if_neg (by decide)] at he ⊢
      split at he
      · cases he
      · rename_i h1
        rw [if_neg h1]; rfl
    have hsz := room_size he
    have hrm := HRM.out he
    have htk := does_take s 4 ByteArray.empty 0 he
    rw [hd2] at hsz hrm htk
    refine (lay_ok H2.out HRD.out.segs HRD.out.few HRD.out.flat HRD.out.len HRD.out.sz (Nat.le_refl _) _ _ _ _ HWR.out hsz hrm htk).mono ?_
    intro e w3 hL
    have HL := Lib.hid hL
    have HE := Lib.hid he
    have HD2 := Lib.hid hd2
    have hex : ∃ er : Int, e = .returned (.int .i64 er) := by
      rcases hL with ⟨_, h, _⟩ | ⟨_, h, _⟩
      · exact ⟨_, h⟩
      · exact ⟨_, h⟩
    obtain ⟨er, rfl⟩ := hex
    clear hL he hd2 hsz hrm htk
    go_wp2
    go_ret
    exact ⟨fun h => absurd HE.out h, fun _ => by rw [HD2.out]; exact LaidP.pre B2.out HL.out⟩
  · refine (lay_wrong _ B _ _ _ _ _ HWR.out he).mono ?_
    rintro e w3 ⟨rfl, b3⟩
    have HE := Lib.hid he
    have B3 := Lib.hid b3
    generalize hge : (doesR s 4 ByteArray.empty 0).1 = er at *
    have HGE := Lib.hid hge
    clear hge
    clear he b3
    go_wp2
    go_ret
    exact ⟨fun _ => ⟨by rw [HGE.out]; rfl, B2.out.trans (B3.out.mono B2.out.size)⟩, fun h => absurd (HGE.out.symm.trans h) HE.out⟩

set_option maxHeartbeats 1000000 in
set_option maxRecDepth 100000 in
theorem spend_any {w : World} {base B Lb D : Nat} {d : Dk} {L : Lay} {gs : List (List ByteArray)} {s : SS} {ev q : Value} (h : SoAt w base B Lb D d L gs false s ev q) (hr : Ready d gs s) (n : Int) (hn : n ≤ 9223372036854775807) (hroom : (doesR s 2 ByteArray.empty n).1 = 0 → usedF d.files + (8 + (doesR s 2 ByteArray.empty n).2.size) ≤ d.room) :
    Calls Tryz.prog 24 #[.pointer (some ⟨B, 0, none⟩), .int .i64 n] w (ActP w base B Lb D d L gs s ev q 2 ByteArray.empty n) := by
  have hmf : ∀ (fn : Fn) (first cap : Array Value) (w : World), (Instr.makeFunc fn first cap).run Tryz.prog w = .ok (.func fn first cap) w := fun _ _ _ _ => rfl
  obtain ⟨w2, hw2⟩ : ∃ W, W = ((w.alloc (.cells #[.pointer (some ⟨B, 0, none⟩)] 28)).alloc (.cells #[.int .i64 n] 3)) := ⟨_, rfl⟩
  have b2 : Below w.heap.size w w2 := by rw [hw2]; exact ((Below.refl _ _).alloc (Nat.le_refl _) _).alloc (by simp) _
  have k0 : w2.cell? ⟨w.heap.size, 0, none⟩ = some (.pointer (some ⟨B, 0, none⟩)) := by
    have h1 : Blk (w.alloc (.cells #[.pointer (some ⟨B, 0, none⟩)] 28)) w.heap.size 28 [.pointer (some ⟨B, 0, none⟩)] := Blk.new w 28 [.pointer (some ⟨B, 0, none⟩)]
    rw [hw2]; exact (h1.alloc _).cell 0
  have k1 : w2.cell? ⟨w.heap.size + 1, 0, none⟩ = some (.int .i64 n) := by
    have h1 : Blk w2 (w.heap.size + 1) 3 [.int .i64 n] := by rw [hw2]; exact Blk.new' (w.alloc (.cells #[.pointer (some ⟨B, 0, none⟩)] 28)) 3 [.int .i64 n] (by simp)
    exact h1.cell 0
  have hz2 : w2.heap.size = w.heap.size + 2 := by rw [hw2]; simp
  have hlt0 : w.heap.size < w2.heap.size := by omega
  have hlt1 : w.heap.size + 1 < w2.heap.size := by omega
  have h2 := h.below b2 (Nat.le_refl _)
  have HWR := Lib.hid (fun (W : World) (hW : Below w2.heap.size w2 W) => spend_wrong (h2.st.keep (w' := W) (fun g hg => hW.block g (h2.st.row_lt hg))) n (w.heap.size + 1) w.heap.size ((hW.cell (p := ⟨w.heap.size + 1, 0, none⟩) hlt1).trans k1) ((hW.cell (p := ⟨w.heap.size, 0, none⟩) hlt0).trans k0))
  have H2 := Lib.hid h2
  have HRD := Lib.hid hr
  have HRM := Lib.hid hroom
  have B2 := Lib.hid b2
  have HSH := Lib.hid (fun W => short_any n hn W)
  clear h h2 hr hroom k1 b2 hz2
  go_enter Tryz.func24, Tryz.ntmps24
  go_wp2_with fail
  rw [← hw2]
  clear hw2
  refine (HSH.out _).mono ?_
  rintro e w5 ⟨rfl, b5⟩
  have k05 := (b5.cell (p := ⟨w.heap.size, 0, none⟩) hlt0).trans k0
  have HB5 := Lib.hid b5
  clear b5
  go_wp2_with fail
  clear hmf k0 k05
  have H5 := Lib.hid (H2.out.below HB5.out (Nat.le_refl _))
  have HW5 := Lib.hid (HWR.out _ HB5.out)
  have B25 := Lib.hid (B2.out.trans (HB5.out.mono B2.out.size))
  clear HWR H2 B2 HB5
  by_cases he : (doesR s 2 ByteArray.empty n).1 = 0
  · rw [he] at HW5
    have hd2 : (doesR s 2 ByteArray.empty n).2 = (⟨#[75]⟩ : ByteArray) ++ numB 2 n := by
      unfold doesR at he ⊢
      rw [if_neg (by decide), if_neg (by decide), if_pos rfl] at he ⊢
      split at he
      · cases he
      · rename_i h1
        rw [if_neg h1]
        have hk := numOk_yes (k := 2) (n := n) (by omega) (by simp; omega)
        rw [numB_yes hk]; rfl
    have hsz := room_size he
    have hrm := HRM.out he
    have htk := does_take s 2 ByteArray.empty n he
    rw [hd2] at hsz hrm htk
    refine (lay_ok H5.out HRD.out.segs HRD.out.few HRD.out.flat HRD.out.len HRD.out.sz (Nat.le_refl _) _ _ _ _ HW5.out hsz hrm htk).mono ?_
    intro e w3 hL
    have HL := Lib.hid hL
    have HE := Lib.hid he
    have HD2 := Lib.hid hd2
    have hex : ∃ er : Int, e = .returned (.int .i64 er) := by
      rcases hL with ⟨_, h, _⟩ | ⟨_, h, _⟩
      · exact ⟨_, h⟩
      · exact ⟨_, h⟩
    obtain ⟨er, rfl⟩ := hex
    clear hL he hd2 hsz hrm htk
    go_wp2
    go_ret
    exact ⟨fun h => absurd HE.out h, fun _ => by rw [HD2.out]; exact LaidP.pre B25.out HL.out⟩
  · refine (lay_wrong _ B _ _ _ _ _ HW5.out he).mono ?_
    rintro e w3 ⟨rfl, b3⟩
    have HE := Lib.hid he
    have B3 := Lib.hid b3
    generalize hge : (doesR s 2 ByteArray.empty n).1 = er at *
    have HGE := Lib.hid hge
    clear hge
    clear he b3
    go_wp2
    go_ret
    exact ⟨fun _ => ⟨by rw [HGE.out]; rfl, B25.out.trans (B3.out.mono B25.out.size)⟩, fun h => absurd (HGE.out.symm.trans h) HE.out⟩
end Go.Proofs.YtffnkomnldgcaaaGreatDoor
