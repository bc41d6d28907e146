/-
  Contracts of package log: segment, next, opened.
-/
import Derived.Test.YtffnkomnldgcaaaGreatDoorSo0
import Derived.Test.YtffnkomnldgcaaaGreatDoorIta
import Derived.Test.YtffnkomnldgcaaaGreatDoorQr
import Derived.Deep.QuietTactic
import Derived.BigQuiet
namespace Go.Proofs.YtffnkomnldgcaaaGreatDoor
open Go.RowKit Go.Pal Go.Pal.Dk Go.Pal.Fr Go.Pal.Cr

/-- A log in memory. -/
def LgAt (w : World) (Lb D last cnt : Nat) (br : Bool) : Prop := Blk w Lb 76 [.pointer (some ⟨D, 0, none⟩), .string nRoom, .int .i64 (last : Int), .int .i64 (cnt : Int), .bool br]
theorem LgAt.keep {w w' : World} {Lb D last cnt : Nat} {br : Bool} (h : LgAt w Lb D last cnt br) (hk : w'.heap[Lb]? = w.heap[Lb]?) : LgAt w' Lb D last cnt br := hk.trans h
theorem decB_eq (i : Nat) : (⟨(Lib.decDigits i).toArray⟩ : ByteArray) = decB i := rfl

set_option maxHeartbeats 400000 in
set_option maxRecDepth 100000 in
theorem segment_any {w : World} {Lb D last cnt : Nat} {br : Bool} (h : LgAt w Lb D last cnt br) (i : Nat) (hi : i < 100) :
    Calls Tryz.prog 47 #[.pointer (some ⟨Lb, 0, none⟩), .int .i64 (i : Int)] w fun e w' => e = .returned (.string (segN i)) ∧ ∃ m, w' = w.drewN m := by
  have c1 : w.cell? ⟨Lb, 1, none⟩ = some (.string nRoom) := h.cell 1
  have HI := Lib.hid (show ∀ W, Calls Tryz.prog 62 #[.int .i64 i] W fun e w' => e = .returned (.string (decB i)) ∧ w' = W from fun W => itoa_any i hi W)
  have zD : (decB i).size ≤ 2 := by
    have := (dec_small i hi).2.2
    simpa [decB, ByteArray.size] using this
  have zR : nRoom.size = 4 := rfl
  have e : segN i = nRoom ++ (⟨#[46]⟩ : ByteArray) ++ decB i := rfl
  rw [e]
  clear h hi e
  generalize decB i = dB at *
  generalize nRoom = R at *
  have zA : (R ++ (⟨#[46]⟩ : ByteArray)).size = 5 := by rw [ByteArray.size_append, zR]; rfl
  go_enter Tryz.func47, Tryz.ntmps47
  go_wp2
  go_quiet (first | (go_at_call 62; exact Calls.quiet_of_same (HI.out _)))
  go_wp2
  go_ret
  exact ⟨rfl, _, rfl⟩

/-- What the last segment's length makes of the next record's number. -/
def textL (d : Dk) (last : Nat) : ByteArray := (readD d (segN last)).1
set_option maxHeartbeats 1000000 in
set_option maxRecDepth 100000 in
theorem next_any {w : World} {Lb base D last cnt : Nat} {br : Bool} {d : Dk} {L : Lay} (h : LgAt w Lb D last cnt br) (hd : DkAt w base D d L) (hi : last < 99) :
    Calls Tryz.prog 58 #[.pointer (some ⟨Lb, 0, none⟩)] w fun e w' => e = .returned (.int .i64 ((if 4096 ≤ (textL d last).size then last + 1 else last : Nat) : Int)) ∧ ∃ m, w' = w.drewN m := by
  have c0 : w.cell? ⟨Lb, 0, none⟩ = some (.pointer (some ⟨D, 0, none⟩)) := h.cell 0
  have c2 : w.cell? ⟨Lb, 2, none⟩ = some (.int .i64 (last : Int)) := h.cell 2
  have HS := Lib.hid (fun (W : World) (hw : W.heap = w.heap) => segment_any (h.keep (w' := W) (by rw [hw])) last (by omega))
  have hsz := segN_size last (by omega)
  have HR := Lib.hid (fun (W : World) (hw : W.heap = w.heap) => dread_any (hd.keep (w' := W) (fun g _ => by rw [hw])) (segN last) (by unfold maxLen; omega))
  have hlen : (textL d last).size ≤ 4194304 := by
    unfold textL readD
    split
    · decide
    · split
      · decide
      · rename_i f hf
        exact Nat.le_trans (data_le_used (atF_some hf).1) (Nat.le_trans hd.good.used hd.good.room)
  have ht : (readD d (segN last)).1 = textL d last := rfl
  rw [ht] at HR
  generalize (readD d (segN last)).2 = er at *
  generalize textL d last = T at *
  clear h hd ht hsz
  generalize segN last = sg at *
  by_cases hl : 4096 ≤ T.size
  · rw [if_pos hl]
    have HW := Lib.hid (show (last : Int) + 1 = ((last + 1 : Nat) : Int) by omega)
    have hl2 : (4096 : Int) ≤ (T.size : Int) := by omega
    go_enter Tryz.func58, Tryz.ntmps58
    go_wp2
    go_quiet (first | (go_at_call 47; exact Calls.quiet_of (HS.out _ (by rfl))) | (go_at_call 46; exact Calls.quiet_of_same (HR.out _ (by rfl))))
    go_wp2
    go_ret
    exact ⟨by rw [HW.out]; rfl, _, rfl⟩
  · rw [if_neg hl]
    have hl2 : ¬ (4096 : Int) ≤ (T.size : Int) := by omega
    go_enter Tryz.func58, Tryz.ntmps58
    go_wp2
    go_quiet (first | (go_at_call 47; exact Calls.quiet_of (HS.out _ (by rfl))) | (go_at_call 46; exact Calls.quiet_of_same (HR.out _ (by rfl))))
    go_wp2
    go_ret
    exact ⟨rfl, _, rfl⟩
end Go.Proofs.YtffnkomnldgcaaaGreatDoor
