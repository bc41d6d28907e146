/-
  A log that is used on, on a disk that is on and not armed.
-/
import Derived.Test.YtffnkomnldgcaaaDoorSo14
namespace Go.Proofs.YtffnkomnldgcaaaDoor
open Go.RowKit Go.Pal Go.Pal.Dk Go.Pal.Fr Go.Pal.Cr

/-- What is known of a log's disk and records. -/
structure LogP (d : Dk) (gs : List (List ByteArray)) (n m : Nat) : Prop where
  segs : Segs d.files gs ByteArray.empty
  safe : SafeS d.files gs
  few : gs.length ≤ n
  flat : gs.flatten.length ≤ n
  len : d.files.length ≤ n
  used : usedF d.files ≤ m
theorem log0 (room : Nat) : LogP (newD room) [] 0 0 := ⟨segs_none, safe_none _, Nat.le_refl _, Nat.le_refl _, Nat.le_refl _, Nat.le_refl _⟩
theorem LogP.next {d d' : Dk} {gs : List (List ByteArray)} {n m : Nat} {r : ByteArray} (h : LogP d gs n m) (hn : n ≤ 58) (ho : SortedF d.files) (hr : r.size ≤ 65535) (hok : d'.files = modF (segN (nextL gs)) syncF (putF (segN (nextL gs)) (sealB r) d.files)) : LogP d' (addL gs r) (n + 1) (m + (8 + r.size)) := by
  have h1 := h.few
  have h2 := h.flat
  have h3 := h.len
  have h4 := h.used
  have so2 := sorted_put ho (segN (nextL gs)) (sealB r)
  obtain ⟨g1, g2⟩ := segs_add h.segs h.safe ho (by omega) r hr so2
  obtain ⟨f, hf⟩ := atF_put_some ho (segN (nextL gs)) (sealB r)
  have u1 := used_put ho (segN (nextL gs)) (sealB r)
  have u2 := used_syncF so2 hf
  have hl := addL_length gs r
  have hnl := nextL_le gs
  refine ⟨by rw [hok]; exact g1, by rw [hok]; exact g2, by omega, by rw [addL_flat, List.length_append]; show gs.flatten.length + 1 ≤ _; omega, ?_, ?_⟩
  · rw [hok]
    have : (modF (segN (nextL gs)) syncF (putF (segN (nextL gs)) (sealB r) d.files)).length = (putF (segN (nextL gs)) (sealB r) d.files).length := by simp [modF]
    omega
  · rw [hok, u2, u1.1, sealB_size]; omega
/-- A record laid on a disk that is on, and not armed. -/
theorem append_calm {w : World} {base Lb D : Nat} {d : Dk} {L : Lay} {gs : List (List ByteArray)} {n m : Nat} (hl : LgAt w Lb D (gs.length - 1) gs.flatten.length false) (hd : DkAt w base D d L) (hp : LogP d gs n m) (hn : n ≤ 58) (hon : d.on = true) (harm : d.arm = none) (r : ByteArray) (hr : r.size ≤ 65535) (hroom : m + (8 + r.size) ≤ d.room) :
    Calls Tryd.prog 18 #[.pointer (some ⟨Lb, 0, none⟩), .string r] w fun e w' => e = .returned (.int .i64 0) ∧ ∃ d', Ap w base D Lb d L ((addL gs r).length - 1) (addL gs r).flatten.length false d' w' ∧ LogP d' (addL gs r) (n + 1) (m + (8 + r.size)) ∧ d'.on = true ∧ d'.arm = none ∧ d'.room = d.room := by
  have hb : begD d = (true, d) := beg_calm hon harm
  have e1 : laidD d (segN (nextL gs)) (sealB r) = { d with files := putF (segN (nextL gs)) (sealB r) d.files } := by unfold laidD; rw [hb]
  have hb2 : begD (laidD d (segN (nextL gs)) (sealB r)) = (true, laidD d (segN (nextL gs)) (sealB r)) := by rw [e1]; exact beg_calm (d := { d with files := putF (segN (nextL gs)) (sealB r) d.files }) hon harm
  have h1 := hp.few
  have h2 := hp.flat
  have h3 := hp.len
  have h4 := hp.used
  refine (append_yes hl hd hp.segs (by omega) (by omega) r hr (by omega) (by omega) (by rw [hb]) (by rw [hb2])).mono ?_
  rintro e w' ⟨rfl, ha⟩
  have hal := addL_length gs r
  refine ⟨rfl, syncedD (laidD d (segN (nextL gs)) (sealB r)) (segN (nextL gs)), ?_, hp.next hn hd.good.sorted hr ?_, ?_, ?_, ?_⟩
  · rw [show (addL gs r).length - 1 = nextL gs by omega, show (addL gs r).flatten.length = gs.flatten.length + 1 by rw [addL_flat, List.length_append]; rfl]
    exact ha
  · unfold syncedD; rw [hb2, e1]
  · unfold syncedD; rw [hb2, e1]; exact hon
  · unfold syncedD; rw [hb2, e1]; exact harm
  · unfold syncedD; rw [hb2, e1]
end Go.Proofs.YtffnkomnldgcaaaDoor
