/-
  The law's 'do': an act, done.
-/
import Derived.Test.YtffnkomnldgcaaaGreatDoorSo7
namespace Go.Proofs.YtffnkomnldgcaaaGreatDoor
open Go.RowKit Go.Pal Go.Pal.Dk Go.Pal.Fr Go.Pal.Cr

theorem ActP.congr {w : World} {base B Lb D : Nat} {d : Dk} {L : Lay} {gs : List (List ByteArray)} {s : SS} {ev q : Value} {k k' : Int} {t t' : ByteArray} {n n' : Int} {e : Ending} {w' : World} (h1 : doesR s k t n = doesR s k' t' n') (h2 : afterR s k t n = afterR s k' t' n') (h : ActP w base B Lb D d L gs s ev q k' t' n' e w') : ActP w base B Lb D d L gs s ev q k t n e w' := by
  unfold ActP at h ⊢
  rw [h1, h2]; exact h
theorem ActP.pre {w w1 : World} {base B Lb D : Nat} {d : Dk} {L : Lay} {gs : List (List ByteArray)} {s : SS} {ev q : Value} {k : Int} {t : ByteArray} {n : Int} {e : Ending} {w' : World} (hb : Below w.heap.size w w1) (h : ActP w1 base B Lb D d L gs s ev q k t n e w') : ActP w base B Lb D d L gs s ev q k t n e w' :=
  ⟨fun hh => ⟨(h.1 hh).1, hb.trans ((h.1 hh).2.mono hb.size)⟩, fun hh => LaidP.pre hb (h.2 hh)⟩
theorem ActP.int {w : World} {base B Lb D : Nat} {d : Dk} {L : Lay} {gs : List (List ByteArray)} {s : SS} {ev q : Value} {k : Int} {t : ByteArray} {n : Int} {e : Ending} {w' : World} (h : ActP w base B Lb D d L gs s ev q k t n e w') : ∃ er : Int, e = .returned (.int .i64 er) := by
  by_cases hh : (doesR s k t n).1 = 0
  · rcases h.2 hh with ⟨_, h, _⟩ | ⟨_, h, _⟩
    · exact ⟨_, h⟩
    · exact ⟨_, h⟩
  · exact ⟨_, (h.1 hh).1⟩
theorem kind4 (s : SS) (k : Int) (t : ByteArray) (n : Int) (h0 : k ≠ 0) (h1 : k ≠ 1) (h2 : k ≠ 2) (h3 : k ≠ 3) : doesR s k t n = doesR s 4 ByteArray.empty 0 ∧ afterR s k t n = afterR s 4 ByteArray.empty 0 := by
  unfold doesR afterR
  rw [if_neg h0, if_neg h1, if_neg h2, if_neg h3, if_neg h0, if_neg h1, if_neg h2, if_neg h3]
  exact ⟨rfl, rfl⟩

set_option maxHeartbeats 1000000 in
set_option maxRecDepth 100000 in
theorem do_so {w : World} {base B Lb D : Nat} {d : Dk} {L : Lay} {gs : List (List ByteArray)} {s : SS} {ev q : Value} (h : SoAt w base B Lb D d L gs false s ev q) (hr : Ready d gs s) (k : Int) (t : ByteArray) (n : Int) (hn : n ≤ 9223372036854775807) (hroom : (doesR s k t n).1 = 0 → usedF d.files + (8 + (doesR s k t n).2.size) ≤ d.room) :
    Calls Tryz.prog 11 #[.pointer (some ⟨B, 0, none⟩), .agg #[.int .i64 k, .string t, .int .i64 n]] w (ActP w base B Lb D d L gs s ev q k t n) := by
  obtain ⟨w2, hw2⟩ : ∃ W, W = w.alloc (.cells #[.int .i64 k, .string t, .int .i64 n] 42) := ⟨_, rfl⟩
  have b2 : Below w.heap.size w w2 := by rw [hw2]; exact (Below.refl _ _).alloc (Nat.le_refl _) _
  have h2 := h.below b2 (Nat.le_refl _)
  have hR : Blk w2 w.heap.size 42 [.int .i64 k, .string t, .int .i64 n] := by rw [hw2]; exact Blk.new w _ _
  have c0 : w2.cell? ⟨w.heap.size, 0, none⟩ = some (.int .i64 k) := hR.cell 0
  have c1 : w2.cell? ⟨w.heap.size, 1, none⟩ = some (.string t) := hR.cell 1
  have c2 : w2.cell? ⟨w.heap.size, 2, none⟩ = some (.int .i64 n) := hR.cell 2
  have B2 := Lib.hid b2
  have hfin : ∀ (e : Ending) (w3 : World), ActP w2 base B Lb D d L gs s ev q k t n e w3 → ActP w base B Lb D d L gs s ev q k t n e w3 := fun e w3 hh => ActP.pre b2 hh
  have HF := Lib.hid hfin
  have H2 := Lib.hid h2
  clear h h2 hR b2 hfin
  by_cases k0 : k = 0
  · subst k0
    have e1 : doesR s 0 t n = doesR s 0 t 0 := rfl
    have e2 : afterR s 0 t n = afterR s 0 t 0 := rfl
    have HC := Lib.hid ((enter_any H2.out hr t (by rw [← e1]; exact hroom)).mono (fun e w' hh => ActP.congr e1 e2 hh))
    clear hroom hr e1 e2
    go_enter Tryz.func11, Tryz.ntmps11
    go_wp2_with (fail)
    rw [← hw2]
    clear hw2
    go_wp2_with (fail)
    refine HC.out.mono ?_
    intro e w3 hA
    obtain ⟨er, rfl⟩ := hA.int
    have HA := Lib.hid hA
    clear hA c0 c1 c2
    go_wp2
    go_ret
    exact HF.out _ _ HA.out
  by_cases k1 : k = 1
  · subst k1
    have e1 : doesR s 1 t n = doesR s 1 t 0 := rfl
    have e2 : afterR s 1 t n = afterR s 1 t 0 := rfl
    have HC := Lib.hid ((event_any H2.out hr t (by rw [← e1]; exact hroom)).mono (fun e w' hh => ActP.congr e1 e2 hh))
    clear hroom hr e1 e2
    go_enter Tryz.func11, Tryz.ntmps11
    go_wp2_with (fail)
    rw [← hw2]
    clear hw2
    go_wp2_with (fail)
    refine HC.out.mono ?_
    intro e w3 hA
    obtain ⟨er, rfl⟩ := hA.int
    have HA := Lib.hid hA
    clear hA c0 c1 c2
    go_wp2
    go_ret
    exact HF.out _ _ HA.out
  by_cases k2 : k = 2
  · subst k2
    have e1 : doesR s 2 t n = doesR s 2 ByteArray.empty n := rfl
    have e2 : afterR s 2 t n = afterR s 2 ByteArray.empty n := rfl
    have HC := Lib.hid ((spend_any H2.out hr n hn (by rw [← e1]; exact hroom)).mono (fun e w' hh => ActP.congr e1 e2 hh))
    clear hroom hr e1 e2
    go_enter Tryz.func11, Tryz.ntmps11
    go_wp2_with (fail)
    rw [← hw2]
    clear hw2
    go_wp2_with (fail)
    refine HC.out.mono ?_
    intro e w3 hA
    obtain ⟨er, rfl⟩ := hA.int
    have HA := Lib.hid hA
    clear hA c0 c1 c2
    go_wp2
    go_ret
    exact HF.out _ _ HA.out
  by_cases k3 : k = 3
  · subst k3
    have e1 : doesR s 3 t n = doesR s 3 t 0 := rfl
    have e2 : afterR s 3 t n = afterR s 3 t 0 := rfl
    have HC := Lib.hid ((queue_any H2.out hr t (by rw [← e1]; exact hroom)).mono (fun e w' hh => ActP.congr e1 e2 hh))
    clear hroom hr e1 e2
    go_enter Tryz.func11, Tryz.ntmps11
    go_wp2_with (fail)
    rw [← hw2]
    clear hw2
    go_wp2_with (fail)
    refine HC.out.mono ?_
    intro e w3 hA
    obtain ⟨er, rfl⟩ := hA.int
    have HA := Lib.hid hA
    clear hA c0 c1 c2
    go_wp2
    go_ret
    exact HF.out _ _ HA.out
  obtain ⟨e1, e2⟩ := kind4 s k t n k0 k1 k2 k3
  have HC := Lib.hid ((done_any H2.out hr (by rw [← e1]; exact hroom)).mono (fun e w' hh => ActP.congr e1 e2 hh))
  clear hroom hr e1 e2
  go_enter Tryz.func11, Tryz.ntmps11
  go_wp2_with (fail)
  rw [← hw2]
  clear hw2
  go_wp2_with (fail)
  refine HC.out.mono ?_
  intro e w3 hA
  obtain ⟨er, rfl⟩ := hA.int
  have HA := Lib.hid hA
  clear hA c0 c1 c2
  go_wp2
  go_ret
  exact HF.out _ _ HA.out
end Go.Proofs.YtffnkomnldgcaaaGreatDoor
